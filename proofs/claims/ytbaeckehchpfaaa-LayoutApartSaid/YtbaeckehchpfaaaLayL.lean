/-
  LAYOUT: from0, from1, alone, at, Rings, Ring.
-/
import Derived.Test.YtbaeckehchpfaaaRows
import Derived.ProofKit
import Derived.Test.YtbaeckehchpfaaaLayI
import Derived.Test.YtbaeckehchpfaaaAfter
namespace Go.Proofs.Ytbaeckehchpfaaa
open Go.ChangeShapes Go.WideShapes Go.ChangeAt Go.RowKit

theorem from0_any (n many : Int) (w : World) : Calls Try.prog 55 #[.int .i64 n, .int .i64 many] w fun e w' => e = .returned (.agg #[.int .i64 n, .int .i64 0, .int .i64 many]) ∧ Below w.heap.size w w' := by
  go_enter Try.func55, Try.ntmps55
  go_wp2_with fail
  refine bodyPost_ret (v := .agg #[.int .i64 n, .int .i64 0, .int .i64 many]) (by simp [results, Try.results55, go_sem]) rfl ?_
  exact ⟨rfl, (Below.refl _ w).alloc (Nat.le_refl _) _⟩

theorem from1_any (n many : Int) (w : World) : Calls Try.prog 56 #[.int .i64 n, .int .i64 many] w fun e w' => e = .returned (.agg #[.int .i64 n, .int .i64 1, .int .i64 many]) ∧ Below w.heap.size w w' := by
  go_enter Try.func56, Try.ntmps56
  go_wp2_with fail
  refine bodyPost_ret (v := .agg #[.int .i64 n, .int .i64 1, .int .i64 many]) (by simp [results, Try.results56, go_sem]) rfl ?_
  exact ⟨rfl, (Below.refl _ w).alloc (Nat.le_refl _) _⟩

theorem alone_any (w : World) : Calls Try.prog 57 #[] w fun e w' => e = .returned (.agg #[.int .i64 0, .int .i64 0, .int .i64 1]) ∧ Below w.heap.size w w' := by
  have hb0 : ∀ o, Below w.heap.size w (w.alloc o) := fun o => (Below.refl _ w).alloc (Nat.le_refl _) _
  have hk : Blk (w.alloc (Obj.cells #[.int .i64 0, .int .i64 0, .int .i64 0] 64)) w.heap.size 64 #[.int .i64 0, .int .i64 0, .int .i64 0] := Blk.made w _ _
  have HB0 := Lib.hid hb0
  have HK := Lib.hid hk
  clear hb0 hk
  go_enter Try.func57, Try.ntmps57
  go_wp2_with fail
  refine (from0_any _ _ _).mono ?_
  rintro e w2 ⟨rfl, hb2⟩
  have HK2 := HK.out.later hb2
  have hb02 := (HB0.out _).trans (hb2.mono (HB0.out _).size)
  have c0 : w2.cell? ⟨w.heap.size, 0, none⟩ = some (.int .i64 0) := HK2.cell 0
  have c1 : w2.cell? ⟨w.heap.size, 1, none⟩ = some (.int .i64 0) := HK2.cell 1
  have c2 : w2.cell? ⟨w.heap.size, 2, none⟩ = some (.int .i64 0) := HK2.cell 2
  have f0 := HK2.free 0
  have f1 := HK2.free 1
  have f2 := HK2.free 2
  clear HK2 hb2
  go_wp2_with fail
  refine bodyPost_ret (v := .agg #[.int .i64 0, .int .i64 0, .int .i64 1]) (by simp [results, Try.results57, go_sem, c0, c1, c2]) rfl ?_
  exact ⟨rfl, ((hb02.setCell (Nat.le_refl _) _).setCell (Nat.le_refl _) _).setCell (Nat.le_refl _) _⟩

def atL (first n low many c i inner : Int) : Int := if n < low ∨ low + many ≤ n ∨ i < 0 ∨ inner ≤ i then -1 else first + (n - low) * c + i

theorem at_any (first n low many c i inner : Int) (hf : 0 ≤ first ∧ first ≤ 100000) (hlo : low = 0 ∨ low = 1) (hm : 0 ≤ many ∧ many ≤ 1000) (hc : 0 ≤ c ∧ c ≤ 1000) (hi : 0 ≤ inner ∧ inner ≤ 1000) (w : World) :
    Calls Try.prog 54 #[.int .i64 first, .agg #[.int .i64 n, .int .i64 low, .int .i64 many], .int .i64 c, .agg #[.int .i64 i, .int .i64 0, .int .i64 inner]] w fun e w' => e = .returned (.int .i64 (atL first n low many c i inner)) ∧ Below w.heap.size w w' := by
  have hb : ∀ o1 o2, Below w.heap.size w ((w.alloc o1).alloc o2) := fun o1 o2 => ((Below.refl _ w).alloc (Nat.le_refl _) _).alloc (by simp [go_sem]) _
  have HB := Lib.hid hb
  clear hb
  by_cases h1 : n < low
  · have HQ : Hid (atL first n low many c i inner = -1) := Lib.hid (by unfold atL; rw [if_pos (by omega)])
    go_enter Try.func54, Try.ntmps54
    go_wp2_with fail
    go_ret
    exact ⟨retI HQ.out.symm, HB.out _ _⟩
  by_cases h2 : low + many ≤ n
  · have HQ : Hid (atL first n low many c i inner = -1) := Lib.hid (by unfold atL; rw [if_pos (by omega)])
    have hl2 : 0 ≤ low ∧ low ≤ 1 := by omega
    clear hlo
    go_enter Try.func54, Try.ntmps54
    go_wp2_with fail
    go_ret
    exact ⟨retI HQ.out.symm, HB.out _ _⟩
  by_cases h3 : i < 0
  · have HQ : Hid (atL first n low many c i inner = -1) := Lib.hid (by unfold atL; rw [if_pos (by omega)])
    have hl2 : 0 ≤ low ∧ low ≤ 1 := by omega
    clear hlo
    go_enter Try.func54, Try.ntmps54
    go_wp2_with fail
    go_ret
    exact ⟨retI HQ.out.symm, HB.out _ _⟩
  by_cases h4 : inner ≤ i
  · have HQ : Hid (atL first n low many c i inner = -1) := Lib.hid (by unfold atL; rw [if_pos (by omega)])
    have hl2 : 0 ≤ low ∧ low ≤ 1 := by omega
    clear hlo
    go_enter Try.func54, Try.ntmps54
    go_wp2_with fail
    go_ret
    exact ⟨retI HQ.out.symm, HB.out _ _⟩
  obtain ⟨P, hP⟩ : ∃ P, (n - low) * c = P := ⟨_, rfl⟩
  have hp : 0 ≤ P ∧ P ≤ 1000000 := by
    rw [← hP]
    exact ⟨Int.mul_nonneg (by omega) (by omega), by have := Int.mul_le_mul (show n - low ≤ 1000 by omega) (show c ≤ 1000 by omega) (by omega) (by omega); omega⟩
  have HQ : Hid (atL first n low many c i inner = first + P + i) := Lib.hid (by unfold atL; rw [if_neg (by omega), hP])
  have hW1 : wrap64 P = P := by unfold wrap64; omega
  have hW3 : wrap64 ((n - low) * c) = P := by rw [hP]; exact hW1
  have hl2 : 0 ≤ low ∧ low ≤ 1 := by omega
  clear hW1 hlo
  go_enter Try.func54, Try.ntmps54
  go_wp2_with fail
  go_ret
  exact ⟨retI HQ.out.symm, HB.out _ _⟩

theorem rings_lay (X : Array Value) (t : Int) (h4 : X[4]? = some (.int .i64 t)) (w : World) :
    Calls Try.prog 13 #[.agg X] w fun e w' => e = .returned (.int .i64 (ringsP t)) ∧ Below w.heap.size w w' := by
  have c4 : (w.alloc (Obj.cells X 26)).cell? ⟨w.heap.size, 4, none⟩ = some (.int .i64 t) := ((Blk.made w _ _).cell 4).trans h4
  have hb : Below w.heap.size w (w.alloc (Obj.cells X 26)) := (Below.refl _ w).alloc (Nat.le_refl _) _
  go_enter Try.func13, Try.ntmps13
  go_wp2_with fail
  refine (rings_any t _).mono ?_
  rintro e w' ⟨rfl, rfl⟩
  go_wp2_with fail
  go_ret
  exact ⟨rfl, hb⟩
end Go.Proofs.Ytbaeckehchpfaaa
