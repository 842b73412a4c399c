/-
  LAYOUT: the places of tasks, and of nodes.
-/
import Derived.Test.YtbaeckehchpfaaaRows
import Derived.ProofKit
import Derived.Test.YtbaeckehchpfaaaLayL
namespace Go.Proofs.Ytbaeckehchpfaaa
open Go.ChangeShapes Go.WideShapes Go.ChangeAt Go.RowKit

theorem pTask (X : Array Value) (f m a b : Int) (hf18 : X[18]? = some (.int .i64 f)) (hf : 0 ≤ f ∧ f ≤ 50000) (hm4 : X[4]? = some (.int .i64 m)) (hm : 0 ≤ m ∧ m ≤ 1000) (w : World) :
    Calls Try.prog 20 #[.agg X, .int .i64 a, .int .i64 b] w fun e w' => e = .returned (.int .i64 (atL f a 1 m 4 b 4)) ∧ Below w.heap.size w w' := by
  have hbk : Blk (w.alloc (Obj.cells X 26)) w.heap.size 26 X := Blk.made w _ _
  have hb : Below w.heap.size w (w.alloc (Obj.cells X 26)) := (Below.refl _ w).alloc (Nat.le_refl _) _
  obtain ⟨V, hV⟩ : ∃ V, V = w.alloc (Obj.cells X 26) := ⟨_, rfl⟩
  rw [← hV] at hbk hb
  have hlt := hbk.lt
  have yf : ∀ y : After V, y.w.cell? ⟨w.heap.size, 18, none⟩ = some (.int .i64 f) := fun y => (y.cell hlt).trans ((hbk.cell 18).trans hf18)
  have ym : ∀ y : After V, y.w.cell? ⟨w.heap.size, 4, none⟩ = some (.int .i64 m) := fun y => (y.cell hlt).trans ((hbk.cell 4).trans hm4)
  have HA := Lib.hid fun w => at_any f a 1 m 4 b 4 (by omega) (by omega) (by omega) (by omega) (by omega) w
  have HV := Lib.hid hV
  have HB := Lib.hid hb
  clear hbk hb hV hm4 hf18
  go_enter Try.func20, Try.ntmps20
  go_wp2_with fail
  rw [← HV.out]
  refine wp_region_after (by kernel_rfl) (by kernel_rfl) ?_
  repeat (go_big_quiet_step (first
    | (go_at_call 55; exact calls_after (from0_any _ _ _))
    | (go_at_call 56; exact calls_after (from1_any _ _ _))
    | (go_at_call 54; exact calls_after (HA.out _))))
  refine wpQuiet_nil ?_
  rintro _ ⟨y, rfl⟩
  go_wp2_with fail
  go_ret
  exact ⟨rfl, HB.out.trans (y.bel.mono HB.out.size)⟩

theorem pNode (X : Array Value) (f m a b : Int) (hf23 : X[23]? = some (.int .i64 f)) (hf : 0 ≤ f ∧ f ≤ 50000) (hm1 : X[1]? = some (.int .i64 m)) (hm : 0 ≤ m ∧ m ≤ 1000) (w : World) :
    Calls Try.prog 21 #[.agg X, .int .i64 a, .int .i64 b] w fun e w' => e = .returned (.int .i64 (atL f a 1 m 8 b 8)) ∧ Below w.heap.size w w' := by
  have hbk : Blk (w.alloc (Obj.cells X 26)) w.heap.size 26 X := Blk.made w _ _
  have hb : Below w.heap.size w (w.alloc (Obj.cells X 26)) := (Below.refl _ w).alloc (Nat.le_refl _) _
  obtain ⟨V, hV⟩ : ∃ V, V = w.alloc (Obj.cells X 26) := ⟨_, rfl⟩
  rw [← hV] at hbk hb
  have hlt := hbk.lt
  have yf : ∀ y : After V, y.w.cell? ⟨w.heap.size, 23, none⟩ = some (.int .i64 f) := fun y => (y.cell hlt).trans ((hbk.cell 23).trans hf23)
  have ym : ∀ y : After V, y.w.cell? ⟨w.heap.size, 1, none⟩ = some (.int .i64 m) := fun y => (y.cell hlt).trans ((hbk.cell 1).trans hm1)
  have HA := Lib.hid fun w => at_any f a 1 m 8 b 8 (by omega) (by omega) (by omega) (by omega) (by omega) w
  have HV := Lib.hid hV
  have HB := Lib.hid hb
  clear hbk hb hV hm1 hf23
  go_enter Try.func21, Try.ntmps21
  go_wp2_with fail
  rw [← HV.out]
  refine wp_region_after (by kernel_rfl) (by kernel_rfl) ?_
  repeat (go_big_quiet_step (first
    | (go_at_call 55; exact calls_after (from0_any _ _ _))
    | (go_at_call 56; exact calls_after (from1_any _ _ _))
    | (go_at_call 54; exact calls_after (HA.out _))))
  refine wpQuiet_nil ?_
  rintro _ ⟨y, rfl⟩
  go_wp2_with fail
  go_ret
  exact ⟨rfl, HB.out.trans (y.bel.mono HB.out.size)⟩

end Go.Proofs.Ytbaeckehchpfaaa
