/- collect.cut: a row by itself. -/
import Derived.Test.YtnpgofkdfckioaaColF
namespace Go.Proofs.Ytnpgofkdfckioaa
open Go.RowKit

def intsV (xs : List Int) : List Value := xs.map (Value.int .i64)
theorem intsV_len (xs : List Int) : (intsV xs).length = xs.length := by unfold intsV; rw [List.length_map]
theorem intsV_one (xs : List Int) : ∀ u ∈ intsV xs, u.oneCell' = true := fun u hu => by
  obtain ⟨z, _, rfl⟩ := List.mem_map.1 hu
  rfl
theorem make_ints (n c : Nat) (h : n ≤ c) (hc : c ≤ 100000) (w : World) : (Instr.makeSlice 22 (.int .i64 (n : Int)) (.int .i64 (c : Int))).run Try.prog w = .ok (.slice (some ⟨w.heap.size, 0, none⟩) n c) (w.alloc (.cells (List.replicate c (Value.int .i64 0)).toArray 3)) := by
  obtain ⟨i, hi, h0, h1, h2⟩ := info_parts infoInt
  have := run_make (P := Try.prog) w 22 3 i (.int .i64 0) Try.underlying22 hi h0 .i64 .i64 (n : Int) (c : Int) (by omega) (by omega) (by rw [h2]; omega) (by omega)
  rw [this, h1]
  simp only [Int.toNat_natCast, Nat.mul_one]
  congr 3
  have := toList_madeCells_one (.int .i64 0) c
  rw [← this]
  rfl
theorem splice_all (Z cs : List Value) (h : Z.length = cs.length) : splice Z 0 cs = cs := by
  unfold splice
  rw [Nat.zero_add, List.drop_of_length_le (by omega)]
  simp
theorem ReadsI.src {w : World} {ao : Option Addr} {n cap : Nat} {xs : List Int} (h : ReadsI w (.slice ao n cap) xs) : 0 < (intsV xs).length → ∃ ad, ao = some ad ∧ ∀ j v, (intsV xs)[j]? = some v → w.cell? (ad.add j) = some v := by
  intro hp
  rw [intsV_len] at hp
  obtain ⟨ao', cap', h1, h2, h3, h4⟩ := h
  injection h1 with e1 e2 e3
  subst e1 e2 e3
  obtain ⟨b, off, rfl, -, -⟩ := h4 0 hp
  refine ⟨_, rfl, fun j v hj => ?_⟩
  have hjl : j < xs.length := by
    have := (List.getElem?_eq_some_iff.1 hj).1
    rwa [intsV_len] at this
  obtain ⟨b', off', e, -, hc⟩ := h4 j hjl
  injection e with e
  injection e with e1 e2 _
  subst e1 e2
  have e3 : (⟨b, off, none⟩ : Addr).add j = ⟨b, off + j, none⟩ := by unfold Addr.add; split <;> simp_all
  rw [e3, hc]
  unfold intsV at hj
  rw [List.getElem?_map, List.getElem?_eq_getElem hjl] at hj
  rw [List.getD_eq_getElem?_getD, List.getElem?_eq_getElem hjl]
  exact hj
theorem sizeOneInt : ((Try.prog).info? 3).map (·.size) = some 1 := by kernel_rfl
set_option maxHeartbeats 1000000 in
set_option maxRecDepth 100000 in
theorem cut_any (xs : List Int) (v : Value) (w : World) (hr : ReadsI w v xs) (hm : xs.length ≤ 1000) :
    Calls Try.prog 26 #[v] w fun e w' => e = .returned (.slice (some ⟨w.heap.size, 0, none⟩) xs.length xs.length) ∧ Has w' w.heap.size (intsV xs) 3 ∧ Below w.heap.size w w' := by
  obtain ⟨ao, cap, rfl, hlc, hcm, -⟩ := id hr
  unfold maxLen at hcm
  have hcl := intsV_len xs
  have hone := Lib.hid (intsV_one xs)
  obtain ⟨cs, hcs⟩ : ∃ cs, intsV xs = cs := ⟨_, rfl⟩
  obtain ⟨Z, hZ⟩ : ∃ Z : List Value, Z = List.replicate xs.length (Value.int .i64 0) := ⟨_, rfl⟩
  have hzl : Z.length = xs.length := by rw [hZ, List.length_replicate]
  have hmk := fun W => make_ints xs.length xs.length (Nat.le_refl _) (by omega) W
  rw [← hZ] at hmk
  have hh := Has.new w Z 3
  have hB := (Below.refl w.heap.size w).alloc (Nat.le_refl _) (.cells Z.toArray 3)
  have hsrc := (hr.below hB).src
  rw [hcs] at hcl hone hsrc ⊢
  clear hcs hZ hr
  generalize xs.length = n at *
  have HS := Lib.hid hsrc
  have HH := Lib.hid hh
  clear hsrc hh
  go_enter Try.func26, Try.ntmps26
  go_wp2_with (refine wpList_copy_splice rfl (.tmp 7) (.tmp 8) 22 22 rfl 3 Try.underlying22 sizeOneInt (some ⟨w.heap.size, 0, none⟩) ao n n n cap rfl rfl w.heap.size 0 Z 3 HH.out cs ?c1 (fun hp => ⟨rfl, HS.out hp⟩) ?c2 hone.out w.heap.size w hB (Nat.le_refl _) ?_)

  case c1 => rw [hcl]; exact (Nat.min_self n).symm
  case c2 => omega
  intro w2 hg hb2
  have HG := Lib.hid (show Has w2 w.heap.size cs 3 by
    have := hg.out
    rw [splice_all Z cs (by omega)] at this
    exact this)
  clear hg
  go_wp2
  go_ret
  exact ⟨rfl, HG.out, hb2⟩
end Go.Proofs.Ytnpgofkdfckioaa
