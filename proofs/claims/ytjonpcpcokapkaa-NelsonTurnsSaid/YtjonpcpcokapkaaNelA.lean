/- The reference of stage 14: long, one, holds. -/
import Derived.Test.YtjonpcpcokapkaaNelT
import Derived.Test.YtjonpcpcokapkaaHas
import Derived.Test.YtjonpcpcokapkaaNum
namespace Go.Proofs.Ytjonpcpcokapkaa
open Go.RowKit

def seenV (s : Seen) : List Value := [.int .i64 s.n, .int .i64 s.a, .int .i64 s.b, .int .i64 s.last]
theorem sizeS : ((Try.prog).info? 64).map (·.size) = some 4 := by kernel_rfl
theorem loadS {w : World} {b : Nat} {c0 c1 c2 c3 : Value} (h : Has w b [c0, c1, c2, c3] 64) : (loadVar 64 ⟨b, 0, none⟩).run Try.prog w = .ok (.agg #[c0, c1, c2, c3]) w :=
  run_loadVar_mid w b 0 64 [c0, c1, c2, c3] _ h.range Try.underlying64 rfl sizeS
theorem resCellS {P : Program} {fn : Func} {tmps : Array Value} {w : World} {a : Nat} {t : TypeId} {ad : Addr} {v : Value} (h : fn.results = #[.cell a t]) (ha : tmps.getD a undef = .pointer (some ad)) (hl : (loadVar t ad).run P w = .ok v w) :
    (results fn tmps).run P w = .ok v w := by
  have ha' : tmps[a]?.getD undef = .pointer (some ad) := by simpa using ha
  simp [results, h, ha', hl, asAddr]
theorem one14_any (p : Bool) (w : World) : Calls Try.prog 55 #[.bool p] w fun e w' => e = .returned (.int .i64 (oneN p)) ∧ w = w' := by
  cases p with
  | false =>
    go_enter Try.func55, Try.ntmps55
    go_wp2
    go_ret
    exact ⟨rfl, rfl⟩
  | true =>
    go_enter Try.func55, Try.ntmps55
    go_wp2
    go_ret
    exact ⟨rfl, rfl⟩
def longW (w : World) : World := w.alloc (.cells #[.int .i64 1, .int .i64 9, .int .i64 6, .int .i64 14, .int .i64 3, .int .i64 5, .int .i64 15, .int .i64 8] 3)
set_option maxHeartbeats 2000000 in
theorem long14_any (r : Nat) (h1 : 1 ≤ r) (h8 : r ≤ 8) (w : World) :
    Calls Try.prog 44 #[.int .i64 (r : Nat)] w fun e w' => e = .returned (.int .i64 (longN r : Nat)) ∧ Below w.heap.size w w' := by
  have hb : Below w.heap.size w (longW w) := (Below.refl _ _).alloc (Nat.le_refl _) _
  have hc : r = 1 ∨ r = 2 ∨ r = 3 ∨ r = 4 ∨ r = 5 ∨ r = 6 ∨ r = 7 ∨ r = 8 := by omega
  clear h1 h8
  rcases hc with rfl | rfl | rfl | rfl | rfl | rfl | rfl | rfl
  all_goals
    go_enter Try.func44, Try.ntmps44
    go_wp2
    go_ret
    exact ⟨rfl, hb⟩
set_option maxHeartbeats 4000000 in
set_option maxRecDepth 100000 in
theorem holds14_any (r : Nat) (h1 : 1 ≤ r) (h8 : r ≤ 8) (s : Seen) (w : World) :
    Calls Try.prog 47 #[.int .i64 (r : Nat), .agg #[.int .i64 s.n, .int .i64 s.a, .int .i64 s.b, .int .i64 s.last]] w fun e w' => e = .returned (.bool (holdsN r s)) ∧ Below w.heap.size w w' := by
  obtain ⟨w2, hw2⟩ : ∃ w2, w.alloc (.cells #[.int .i64 s.n, .int .i64 s.a, .int .i64 s.b, .int .i64 s.last] 64) = w2 := ⟨_, rfl⟩
  have HB2 := Lib.hid (show Below w.heap.size w w2 by rw [← hw2]; exact (Below.refl _ _).alloc (Nat.le_refl _) _)
  have HS2 := Lib.hid (show Has w2 w.heap.size [.int .i64 s.n, .int .i64 s.a, .int .i64 s.b, .int .i64 s.last] 64 by rw [← hw2]; exact Has.new w _ _)
  have HW2 := Lib.hid hw2
  clear hw2
  obtain ⟨V, hV⟩ : ∃ V, holdsN r s = V := ⟨_, rfl⟩
  rw [hV]
  have HV := Lib.hid hV
  clear hV
  obtain ⟨n, hn⟩ : ∃ n, needN r = n := ⟨_, rfl⟩
  have HN := Lib.hid hn
  have hc : r = 1 ∨ r = 2 ∨ r = 3 ∨ r = 4 ∨ r = 5 ∨ r = 6 ∨ r = 7 ∨ r = 8 := by omega
  have HC := Lib.hid hc
  clear hn hc h1 h8
  go_enter Try.func47, Try.ntmps47
  go_upto_region 1 with fail
  rw [HW2.out]
  go_cut [5] (fun s5 wx => s5 = .int .i64 n ∧ Hid (Has wx w.heap.size [.int .i64 s.n, .int .i64 s.a, .int .i64 s.b, .int .i64 s.last] 64) ∧ Hid (Below w.heap.size w wx))
  case first =>
    have HS3 := Lib.hid (HS2.out.alloc (.cells #[.int .i64 1, .int .i64 9, .int .i64 1, .int .i64 1, .int .i64 2, .int .i64 4, .int .i64 15, .int .i64 8] 3))
    have HB3 := Lib.hid (HB2.out.alloc HB2.out.size (.cells #[.int .i64 1, .int .i64 9, .int .i64 1, .int .i64 1, .int .i64 2, .int .i64 4, .int .i64 15, .int .i64 8] 3))
    rcases HC.out with rfl | rfl | rfl | rfl | rfl | rfl | rfl | rfl
    all_goals
      go_wp2_with fail
      go_meet
      exact ⟨by rw [← HN.out]; rfl, HS3, HB3⟩
  case rest =>
    obtain ⟨rfl, HS4, HB4⟩ := hcut
    have c1 : wc.cell? ⟨w.heap.size, 1, none⟩ = some (.int .i64 s.a) := HS4.out.cell 1
    have c2 : wc.cell? ⟨w.heap.size, 2, none⟩ = some (.int .i64 s.b) := HS4.out.cell 2
    have cl := HS4.out.lt
    have hv := HV.out
    unfold holdsN at hv
    rw [HN.out] at hv
    by_cases g : n ≤ s.a
    · rw [decide_eq_true g] at hv
      have HV2 := Lib.hid hv
      clear hv
      go_wp2
      go_ret
      exact ⟨by rw [← HV2.out]; rfl, HB4.out⟩
    · rw [decide_eq_false g, Bool.false_or] at hv
      have HV2 := Lib.hid hv
      clear hv
      go_wp2
      go_ret
      exact ⟨by rw [← HV2.out]; rfl, HB4.out⟩
end Go.Proofs.Ytjonpcpcokapkaa
