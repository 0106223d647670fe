/- some12_any: samples that are within the ends, from any. -/
import Derived.Test.YtaegoomnenociaaApI
import Derived.Test.YtaegoomnenociaaInN
namespace Go.Proofs.Ytaegoomnenociaa
open Go.RowKit

def SomeRel (l : List Int) (m : Nat) (w : World) (av i : Value) (wr : World) : Prop := ∃ k : Nat, k ≤ m ∧ i = .int .i64 (k : Nat) ∧ IRow w.heap.size av ((l.take k).map clampI) wr ∧ Below w.heap.size w wr
set_option maxHeartbeats 2000000 in
set_option maxRecDepth 100000 in
theorem some12_any (l : List Int) (v : Value) (w : World) (hr : ReadsI w v l) :
    Calls Try.prog 15 #[v] w fun e w' => ∃ v', e = .returned v' ∧ IRow w.heap.size v' (someN l 200) w' ∧ Below w.heap.size w w' := by
  obtain ⟨ao, cap, rfl, hlc, hcm, -⟩ := id hr
  unfold maxLen at hcm
  obtain ⟨n, hn⟩ : ∃ n, l.length = n := ⟨_, rfl⟩
  rw [hn] at hlc hr ⊢
  obtain ⟨m, hm⟩ : ∃ m, m = min n 200 := ⟨_, rfl⟩
  have HR := Lib.hid (hr.few 200 m hm)
  have hml : (l.take 200).length = m := by rw [List.length_take, hn, hm, Nat.min_comm]
  have hmN : m ≤ 1000 := by omega
  unfold someN
  generalize l.take 200 = l at *
  have HML := Lib.hid hml
  have HM := Lib.hid hm
  clear hr hml hm hn
  go_enter Try.func15, Try.ntmps15
  go_upto_region 2 with fail
  go_cut [10, 11, 12] (fun s1 s2 s3 wx => s1 = .slice ao m cap ∧ s2 = .int .i64 (m : Nat) ∧ s3 = .int .i64 0 ∧ wx = w)
  case first =>
    have hm := HM.out
    rcases Nat.lt_trichotomy n 200 with c | c | c
    · obtain rfl : m = n := by omega
      have g1 : (m : Int) < 200 := by omega
      have g2 : ¬ (200 : Int) < (m : Int) := by omega
      have g3 : ¬ (200 : Int) ≤ (m : Int) := by omega
      have g4 : (m : Int) ≤ 200 := by omega
      have hsl := slice_hi ao m cap m (by omega)
      clear hm
      go_wp2_with fail
      go_meet
      exact ⟨rfl, rfl, rfl, rfl⟩
    · subst c
      obtain rfl : m = 200 := by omega
      have hsl : ∀ W, (Instr.slice 24 (.slice ao 200 cap) none (some (.int .i64 200)) none).run Try.prog W = .ok (.slice ao 200 cap) W := slice_hi ao 200 cap 200 (by omega)
      clear hm
      go_wp2_with fail
      go_meet
      exact ⟨rfl, rfl, rfl, rfl⟩
    · obtain rfl : m = 200 := by omega
      have g1 : (200 : Int) < (n : Int) := by omega
      have g2 : ¬ (n : Int) < 200 := by omega
      have g3 : ¬ (n : Int) ≤ 200 := by omega
      have g4 : (200 : Int) ≤ (n : Int) := by omega
      have hsl : ∀ W, (Instr.slice 24 (.slice ao n cap) none (some (.int .i64 200)) none).run Try.prog W = .ok (.slice ao 200 cap) W := slice_hi ao n cap 200 (by omega)
      clear hm
      go_wp2_with fail
      go_meet
      exact ⟨rfl, rfl, rfl, rfl⟩
  case rest =>
    obtain ⟨rfl, rfl, rfl, hwx⟩ := hcut
    rw [hwx]
    clear hwx
    go_wp2
    go_loopw [3, 12] (SomeRel l m w) (fun _ i _ => m - (intOf i).toNat)
    case atStart => exact ⟨0, Nat.zero_le _, rfl, IRow.nil _ _, Below.refl _ _⟩
    case round =>
      obtain ⟨k, hk, rfl, hrow, hb⟩ := hrel
      have HROW := Lib.hid hrow
      have HB := Lib.hid hb
      have hsz := hb.size
      clear hrow hb
      by_cases hl : k < m
      · obtain ⟨ao', cp', e0, -, -, hrd⟩ := HR.out.below HB.out
        injection e0 with e1 e2 e3
        subst e1 e3
        obtain ⟨b, off, rfl, hlt, hc⟩ := hrd k (by rw [HML.out]; exact hl)
        obtain ⟨x, hx⟩ : ∃ x, l.getD k 0 = x := ⟨_, rfl⟩
        rw [hx] at hc
        have HSN := Lib.hid (some_snoc l k x (by rw [HML.out]; exact hl) hx)
        have hal : ((l.take k).map clampI).length ≤ 1000 := by rw [List.length_map, List.length_take]; omega
        obtain ⟨acc, hacc⟩ : ∃ acc, (l.take k).map clampI = acc := ⟨_, rfl⟩
        rw [hacc] at HROW HSN hal
        have hkm : (k : Int) < (m : Int) := by omega
        clear hrd hx hacc e2
        rcases Int.lt_trichotomy x (-1000000) with hx | hx | hx
        · skip
          have g1 : ¬ (-1000000 : Int) < x := by omega
          have g2 : ¬ (-1000000 : Int) ≤ x := by omega
          have g3 : x ≤ -1000000 := by omega
          have hcl : clampI x = -1000000 := by unfold clampI; omega
          rw [hcl] at HSN
          have HO := Lib.hid (ReadsI.one wr (-1000000))
          have HWA := Lib.hid (HROW.out.alloc (.cells #[.int .i64 (-1000000)] 3))
          have hsa : (wr.alloc (.cells #[.int .i64 (-1000000)] 3)).heap.size = wr.heap.size + 1 := by simp
          have HSA := Lib.hid hsa
          have HBA := Lib.hid (HB.out.alloc hsz (.cells #[.int .i64 (-1000000)] 3))
          clear hcl hsa
          go_wp2_with (at_builtin; refine wpList_append_ints rfl (.tmp 16) (.tmp 20) rfl w.heap.size _ acc [-1000000] rfl HWA.out (some ⟨wr.heap.size, 0, none⟩) 1 1 rfl HO.out (by show _ + 1 ≤ _; omega) (by rw [HSA.out]; omega) ?_)
          intro v' w' hi' hg'
          have HRW := Lib.hid (show SomeRel l m w v' (.int .i64 ((k : Int) + 1)) w' from
            ⟨k + 1, by omega, by go_num, by rw [HSN.out]; exact hi', HBA.out.grown hg' (by rw [HSA.out]; omega) (fun j hj => (HWA.out.lt' j hj).1)⟩)
          clear hi' hg' hc
          go_wp2
          go_roundw
          case rel => exact HRW.out
          case measure => simp [intOf]; omega
        · subst hx
          have hcl : clampI (-1000000) = -1000000 := by unfold clampI; omega
          rw [hcl] at HSN
          have HO := Lib.hid (ReadsI.one wr (-1000000))
          have HWA := Lib.hid (HROW.out.alloc (.cells #[.int .i64 (-1000000)] 3))
          have hsa : (wr.alloc (.cells #[.int .i64 (-1000000)] 3)).heap.size = wr.heap.size + 1 := by simp
          have HSA := Lib.hid hsa
          have HBA := Lib.hid (HB.out.alloc hsz (.cells #[.int .i64 (-1000000)] 3))
          clear hcl hsa
          go_wp2_with (at_builtin; refine wpList_append_ints rfl (.tmp 16) (.tmp 20) rfl w.heap.size _ acc [-1000000] rfl HWA.out (some ⟨wr.heap.size, 0, none⟩) 1 1 rfl HO.out (by show _ + 1 ≤ _; omega) (by rw [HSA.out]; omega) ?_)
          intro v' w' hi' hg'
          have HRW := Lib.hid (show SomeRel l m w v' (.int .i64 ((k : Int) + 1)) w' from
            ⟨k + 1, by omega, by go_num, by rw [HSN.out]; exact hi', HBA.out.grown hg' (by rw [HSA.out]; omega) (fun j hj => (HWA.out.lt' j hj).1)⟩)
          clear hi' hg' hc
          go_wp2
          go_roundw
          case rel => exact HRW.out
          case measure => simp [intOf]; omega
        · rcases Int.lt_trichotomy x 1000000 with hy | hy | hy
          · skip
            have g1 : ¬ x < (-1000000 : Int) := by omega
            have g2 : ¬ x ≤ (-1000000 : Int) := by omega
            have g3 : -1000000 ≤ x := by omega
            have g4 : ¬ (1000000 : Int) < x := by omega
            have g5 : ¬ (1000000 : Int) ≤ x := by omega
            have g6 : x ≤ 1000000 := by omega
            have hcl : clampI x = x := by unfold clampI; omega
            rw [hcl] at HSN
            have HO := Lib.hid (ReadsI.one wr (x))
            have HWA := Lib.hid (HROW.out.alloc (.cells #[.int .i64 (x)] 3))
            have hsa : (wr.alloc (.cells #[.int .i64 (x)] 3)).heap.size = wr.heap.size + 1 := by simp
            have HSA := Lib.hid hsa
            have HBA := Lib.hid (HB.out.alloc hsz (.cells #[.int .i64 (x)] 3))
            clear hcl hsa
            go_wp2_with (at_builtin; refine wpList_append_ints rfl (.tmp 16) (.tmp 20) rfl w.heap.size _ acc [x] rfl HWA.out (some ⟨wr.heap.size, 0, none⟩) 1 1 rfl HO.out (by show _ + 1 ≤ _; omega) (by rw [HSA.out]; omega) ?_)
            intro v' w' hi' hg'
            have HRW := Lib.hid (show SomeRel l m w v' (.int .i64 ((k : Int) + 1)) w' from
              ⟨k + 1, by omega, by go_num, by rw [HSN.out]; exact hi', HBA.out.grown hg' (by rw [HSA.out]; omega) (fun j hj => (HWA.out.lt' j hj).1)⟩)
            clear hi' hg' hc
            go_wp2
            go_roundw
            case rel => exact HRW.out
            case measure => simp [intOf]; omega
          · subst hy
            have hcl : clampI 1000000 = 1000000 := by unfold clampI; omega
            rw [hcl] at HSN
            have HO := Lib.hid (ReadsI.one wr (1000000))
            have HWA := Lib.hid (HROW.out.alloc (.cells #[.int .i64 (1000000)] 3))
            have hsa : (wr.alloc (.cells #[.int .i64 (1000000)] 3)).heap.size = wr.heap.size + 1 := by simp
            have HSA := Lib.hid hsa
            have HBA := Lib.hid (HB.out.alloc hsz (.cells #[.int .i64 (1000000)] 3))
            clear hcl hsa
            go_wp2_with (at_builtin; refine wpList_append_ints rfl (.tmp 16) (.tmp 20) rfl w.heap.size _ acc [1000000] rfl HWA.out (some ⟨wr.heap.size, 0, none⟩) 1 1 rfl HO.out (by show _ + 1 ≤ _; omega) (by rw [HSA.out]; omega) ?_)
            intro v' w' hi' hg'
            have HRW := Lib.hid (show SomeRel l m w v' (.int .i64 ((k : Int) + 1)) w' from
              ⟨k + 1, by omega, by go_num, by rw [HSN.out]; exact hi', HBA.out.grown hg' (by rw [HSA.out]; omega) (fun j hj => (HWA.out.lt' j hj).1)⟩)
            clear hi' hg' hc
            go_wp2
            go_roundw
            case rel => exact HRW.out
            case measure => simp [intOf]; omega
          · skip
            have g1 : ¬ x < (-1000000 : Int) := by omega
            have g2 : ¬ x ≤ (-1000000 : Int) := by omega
            have g3 : -1000000 ≤ x := by omega
            have g4 : ¬ x < (1000000 : Int) := by omega
            have g5 : ¬ x ≤ (1000000 : Int) := by omega
            have g6 : 1000000 ≤ x := by omega
            have hcl : clampI x = 1000000 := by unfold clampI; omega
            rw [hcl] at HSN
            have HO := Lib.hid (ReadsI.one wr (1000000))
            have HWA := Lib.hid (HROW.out.alloc (.cells #[.int .i64 (1000000)] 3))
            have hsa : (wr.alloc (.cells #[.int .i64 (1000000)] 3)).heap.size = wr.heap.size + 1 := by simp
            have HSA := Lib.hid hsa
            have HBA := Lib.hid (HB.out.alloc hsz (.cells #[.int .i64 (1000000)] 3))
            clear hcl hsa
            go_wp2_with (at_builtin; refine wpList_append_ints rfl (.tmp 16) (.tmp 20) rfl w.heap.size _ acc [1000000] rfl HWA.out (some ⟨wr.heap.size, 0, none⟩) 1 1 rfl HO.out (by show _ + 1 ≤ _; omega) (by rw [HSA.out]; omega) ?_)
            intro v' w' hi' hg'
            have HRW := Lib.hid (show SomeRel l m w v' (.int .i64 ((k : Int) + 1)) w' from
              ⟨k + 1, by omega, by go_num, by rw [HSN.out]; exact hi', HBA.out.grown hg' (by rw [HSA.out]; omega) (fun j hj => (HWA.out.lt' j hj).1)⟩)
            clear hi' hg' hc
            go_wp2
            go_roundw
            case rel => exact HRW.out
            case measure => simp [intOf]; omega
      · obtain rfl : k = m := by omega
        have hfe : l.take k = l := List.take_of_length_le (by rw [HML.out]; exact Nat.le_refl _)
        have hrow := HROW.out
        rw [hfe] at hrow
        have HROW2 := Lib.hid hrow
        clear hrow hfe
        go_wp2
        go_ret
        exact ⟨_, rfl, HROW2.out, HB.out⟩
end Go.Proofs.Ytaegoomnenociaa
