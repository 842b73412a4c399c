/-
  HIST: calls: ahead, kinds, and what may be.
-/
import Derived.Test.YtedgliaablokcaaRows
import Derived.ProofKit
import Derived.Test.YtedgliaablokcaaHistR
import Derived.Test.YtedgliaablokcaaTail
import Derived.Test.YtedgliaablokcaaGet
namespace Go.Proofs.Ytedgliaablokcaa
open Go.ChangeShapes Go.WideShapes Go.ChangeAt Go.RowKit

theorem ahead_any (a b : CallV) (w : World) : Calls Try.prog 10 #[.agg #[.int .i64 a.who, .int .i64 a.kind, .int .i64 a.obj, .int .i64 a.a, .int .i64 a.b, .int .i64 a.val, .bool a.is, .int .i64 a.first, .int .i64 a.last, .int .i64 a.point], .agg #[.int .i64 b.who, .int .i64 b.kind, .int .i64 b.obj, .int .i64 b.a, .int .i64 b.b, .int .i64 b.val, .bool b.is, .int .i64 b.first, .int .i64 b.last, .int .i64 b.point]] w fun e w' => e = .returned (.bool (decide (a.last < b.first))) ∧ Below w.heap.size w w' := by
  go_enter Try.func10, Try.ntmps10
  go_wp2_with fail
  go_ret
  exact ⟨rfl, ((Below.refl _ _).alloc (Nat.le_refl _) _).alloc (by simp) _⟩

theorem rahead_any (a b : CallV) (w : World) : Calls Try.prog 17 #[.agg #[.int .i64 a.who, .int .i64 a.kind, .int .i64 a.obj, .int .i64 a.a, .int .i64 a.b, .int .i64 a.val, .bool a.is, .int .i64 a.first, .int .i64 a.last, .int .i64 a.point], .agg #[.int .i64 b.who, .int .i64 b.kind, .int .i64 b.obj, .int .i64 b.a, .int .i64 b.b, .int .i64 b.val, .bool b.is, .int .i64 b.first, .int .i64 b.last, .int .i64 b.point]] w fun e w' => e = .returned (.bool (decide (a.last < b.first))) ∧ Below w.heap.size w w' := by
  go_enter Try.func17, Try.ntmps17
  go_wp2_with fail
  go_ret
  exact ⟨rfl, ((Below.refl _ _).alloc (Nat.le_refl _) _).alloc (by simp) _⟩

/-- the kind of things that an operation is of -/
def kindOf (k : Int) : Int := if k = 1 ∨ k = 2 ∨ k = 3 then 1 else if k = 4 ∨ k = 5 then 2 else if k = 6 ∨ k = 7 then 3 else 0

set_option maxHeartbeats 1000000 in
theorem of_kind (k : Int) (w : World) : Calls Try.prog 19 #[.int .i64 k] w fun e w' => e = .returned (.int .i64 (kindOf k)) ∧ w' = w := by
  rcases (show k = 1 ∨ k = 2 ∨ k = 3 ∨ k = 4 ∨ k = 5 ∨ k = 6 ∨ k = 7 ∨ (k ≠ 1 ∧ k ≠ 2 ∧ k ≠ 3 ∧ k ≠ 4 ∧ k ≠ 5 ∧ k ≠ 6 ∧ k ≠ 7) by omega) with rfl | rfl | rfl | rfl | rfl | rfl | rfl | h
  case' inr.inr.inr.inr.inr.inr.inr =>
    have h1 : (k == 1) = false := by simp; omega
    have h2 : (k == 2) = false := by simp; omega
    have h3 : (k == 3) = false := by simp; omega
    have h4 : (k == 4) = false := by simp; omega
    have h5 : (k == 5) = false := by simp; omega
    have h6 : (k == 6) = false := by simp; omega
    have h7 : (k == 7) = false := by simp; omega
    have HK : Hid (kindOf k = 0) := Lib.hid (by unfold kindOf; rw [if_neg (by omega), if_neg (by omega), if_neg (by omega)])
    clear h
  all_goals
    go_enter Try.func19, Try.ntmps19
    go_wp2_with fail
    go_ret
    first | exact ⟨rfl, rfl⟩ | exact ⟨by rw [HK.out]; rfl, rfl⟩

set_option maxHeartbeats 1000000 in
theorem of1_any (c : CallV) (g : Nat) (kind : Int) (w : World) (hc : w.cell? ⟨g, 0, none⟩ = some (.int .i64 kind)) :
    Calls Try.prog 18 #[.agg #[.int .i64 c.who, .int .i64 c.kind, .int .i64 c.obj, .int .i64 c.a, .int .i64 c.b, .int .i64 c.val, .bool c.is, .int .i64 c.first, .int .i64 c.last, .int .i64 c.point], .pointer (some ⟨g, 0, none⟩)] w fun e w' => e = .returned (.bool (kindOf c.kind == kind)) ∧ Below w.heap.size w w' := by
  have hl := World.block_lt_of_cell? w _ hc
  obtain ⟨W, hW⟩ : ∃ W, W = w.alloc (Obj.cells #[.int .i64 c.who, .int .i64 c.kind, .int .i64 c.obj, .int .i64 c.a, .int .i64 c.b, .int .i64 c.val, .bool c.is, .int .i64 c.first, .int .i64 c.last, .int .i64 c.point] 30) := ⟨_, rfl⟩
  have hbW : Below w.heap.size w W := by rw [hW]; exact (Below.refl _ _).alloc (Nat.le_refl _) _
  have HC : Blk W w.heap.size 30 #[.int .i64 c.who, .int .i64 c.kind, .int .i64 c.obj, .int .i64 c.a, .int .i64 c.b, .int .i64 c.val, .bool c.is, .int .i64 c.first, .int .i64 c.last, .int .i64 c.point] := by rw [hW]; exact Blk.made w _ _
  have c1 : W.cell? ⟨w.heap.size, 1, none⟩ = some (.int .i64 c.kind) := HC.cell 1
  have cg : W.cell? ⟨g, 0, none⟩ = some (.int .i64 kind) := by rw [hbW.cell (p := ⟨g, 0, none⟩) hl]; exact hc
  have HW := Lib.hid hW
  have HB := Lib.hid hbW
  clear hW hbW HC hc hl
  go_enter Try.func18, Try.ntmps18
  go_wp2_with fail
  rw [← HW.out]
  go_quiet ((go_at_call 19; refine Calls.quiet_of_same (of_kind _ _)))
  go_wp2_with fail
  go_ret
  exact ⟨rfl, below_drewN HB.out nq⟩

set_option maxHeartbeats 1000000 in
theorem of2_any (c : CallV) (g : Nat) (x : Int) (w : World) (hc : w.cell? ⟨g, 0, none⟩ = some (.int .i64 x)) :
    Calls Try.prog 20 #[.agg #[.int .i64 c.who, .int .i64 c.kind, .int .i64 c.obj, .int .i64 c.a, .int .i64 c.b, .int .i64 c.val, .bool c.is, .int .i64 c.first, .int .i64 c.last, .int .i64 c.point], .pointer (some ⟨g, 0, none⟩)] w fun e w' => e = .returned (.bool (c.obj == x)) ∧ Below w.heap.size w w' := by
  have cg : ∀ o, (w.alloc o).cell? ⟨g, 0, none⟩ = some (.int .i64 x) := fun o => get_alloc hc
  go_enter Try.func20, Try.ntmps20
  go_wp2_with fail
  go_ret
  exact ⟨rfl, (Below.refl _ _).alloc (Nat.le_refl _) _⟩

set_option maxHeartbeats 1000000 in
theorem seat1_any (c : CallV) (g : Nat) (x : Int) (w : World) (hc : w.cell? ⟨g, 0, none⟩ = some (.int .i64 x)) :
    Calls Try.prog 23 #[.agg #[.int .i64 c.who, .int .i64 c.kind, .int .i64 c.obj, .int .i64 c.a, .int .i64 c.b, .int .i64 c.val, .bool c.is, .int .i64 c.first, .int .i64 c.last, .int .i64 c.point], .pointer (some ⟨g, 0, none⟩)] w fun e w' => e = .returned (.bool (c.who == x)) ∧ Below w.heap.size w w' := by
  have cg : ∀ o, (w.alloc o).cell? ⟨g, 0, none⟩ = some (.int .i64 x) := fun o => get_alloc hc
  go_enter Try.func23, Try.ntmps23
  go_wp2_with fail
  go_ret
  exact ⟨rfl, (Below.refl _ _).alloc (Nat.le_refl _) _⟩

set_option maxHeartbeats 1000000 in
theorem upto1_any (c : CallV) (g : Nat) (x : Int) (w : World) (hc : w.cell? ⟨g, 0, none⟩ = some (.int .i64 x)) :
    Calls Try.prog 24 #[.agg #[.int .i64 c.who, .int .i64 c.kind, .int .i64 c.obj, .int .i64 c.a, .int .i64 c.b, .int .i64 c.val, .bool c.is, .int .i64 c.first, .int .i64 c.last, .int .i64 c.point], .pointer (some ⟨g, 0, none⟩)] w fun e w' => e = .returned (.bool (decide (c.last ≤ x))) ∧ Below w.heap.size w w' := by
  have cg : ∀ o, (w.alloc o).cell? ⟨g, 0, none⟩ = some (.int .i64 x) := fun o => get_alloc hc
  go_enter Try.func24, Try.ntmps24
  go_wp2_with fail
  go_ret
  exact ⟨rfl, (Below.refl _ _).alloc (Nat.le_refl _) _⟩

/-- may there be such a call? -/
def mayC (c : CallV) : Bool := decide (0 ≤ c.who ∧ c.who < 8 ∧ 1 ≤ c.kind ∧ c.kind ≤ 7 ∧ 0 ≤ c.obj ∧ c.obj < 8 ∧ 0 ≤ c.first ∧ c.first ≤ c.last ∧ (c.point = -1 ∨ c.first ≤ c.point ∧ c.point ≤ c.last))

theorem mayC_true {c : CallV} (h : mayC c = true) : 0 ≤ c.who ∧ c.who < 8 ∧ 1 ≤ c.kind ∧ c.kind ≤ 7 ∧ 0 ≤ c.obj ∧ c.obj < 8 ∧ 0 ≤ c.first ∧ c.first ≤ c.last ∧ (c.point = -1 ∨ c.first ≤ c.point ∧ c.point ≤ c.last) := of_decide_eq_true h

end Go.Proofs.Ytedgliaablokcaa
