/-
  TRACE: rowOf, row.event, Picks' closure.
-/
import Derived.Test.YtbfbfpjfmdannaaTrR
import Derived.Test.YtbfbfpjfmdannaaTrK
import Derived.Test.YtbfbfpjfmdannaaTrP
import Derived.WalkMore
import Derived.ChangeKeysEq
import Derived.Laws.Rows
import Derived.Deep.MidRow
namespace Go.Proofs.Ytbfbfpjfmdannaa
open Go.ChangeShapes Go.WideShapes Go.ChangeAt Go.RowKit

def EvV.agg (e : EvV) : Value := .agg #[.int .i64 e.worker, .int .i64 e.seat, .int .i64 e.kind, .int .i64 e.cell, .int .i64 e.old, .int .i64 e.new, .int .i64 e.val, .bool e.ok]
def EvV.rowAgg (e : EvV) : Value := .agg #[.int .i64 e.worker, .int .i64 e.seat, .int .i64 e.kind, .int .i64 e.cell, .int .i64 e.old, .int .i64 e.new, .int .i64 e.val, .int .i64 e.ok01]

theorem rowU : Try.prog.underlying 59 = some (.array 8 3) := by kernel_rfl
theorem rowI : (Try.prog.info? 59).map (·.size) = some 8 := by kernel_rfl
theorem pkI : (Try.prog.info? 55).map (·.size) = some 3 := by kernel_rfl
theorem evI : (Try.prog.info? 48).map (·.size) = some 8 := by kernel_rfl
theorem two_new (w : World) (o1 o2 : Obj) : ((w.alloc o1).alloc o2).heap[w.heap.size + 1]? = some o2 := by
  have := heap_alloc_new (w.alloc o1) o2
  simpa [go_sem] using this

set_option maxRecDepth 100000 in
set_option maxHeartbeats 4000000 in
theorem rowOf_any (e : EvV) (w : World) : Calls Try.prog 24 #[e.agg] w fun r w' => r = .returned e.rowAgg ∧ Below w.heap.size w w' := by
  obtain ⟨a, b, c, d, f, g, h, ok⟩ := e
  unfold EvV.agg EvV.rowAgg EvV.ok01
  dsimp only
  cases ok
  all_goals (
    go_enter Try.func24, Try.ntmps24
    go_wp2_with fail
    exact bodyPost_ret (results_cell_row Try.results24 _ _ (w.heap.size + 1) 59 _ (0, 0) _ rfl (two_new _ _ _) rowU rfl rowI) rfl ⟨rfl, ((Below.refl _ _).alloc (Nat.le_refl _) _).alloc (by simp [go_sem]) _⟩)

set_option maxRecDepth 100000 in
set_option maxHeartbeats 4000000 in
theorem pickOf_any (e : EvV) (w : World) : Calls Try.prog 31 #[e.agg] w fun r w' => r = .returned (.agg #[.int .i64 (if e.kind = 0 then 3 else 1), .int .i64 e.worker, .int .i64 0]) ∧ Below w.heap.size w w' := by
  obtain ⟨a, b, c, d, f, g, h, ok⟩ := e
  unfold EvV.agg
  dsimp only
  by_cases h0 : c = 0
  · subst h0
    go_enter Try.func31, Try.ntmps31
    go_wp2_with fail
    exact bodyPost_ret (results_cell_row Try.results31 _ _ (w.heap.size + 1) 55 _ (0, 0) _ rfl (two_new _ _ _) pkFields rfl pkI) rfl ⟨by simp, ((Below.refl _ _).alloc (Nat.le_refl _) _).alloc (by simp [go_sem]) _⟩
  · have h1 : (c == 0) = false := by simpa using h0
    rw [if_neg h0]
    go_enter Try.func31, Try.ntmps31
    go_wp2_with fail
    exact bodyPost_ret (results_cell_row Try.results31 _ _ (w.heap.size + 1) 55 _ (0, 0) _ rfl (two_new _ _ _) pkFields rfl pkI) rfl ⟨by simp, ((Below.refl _ _).alloc (Nat.le_refl _) _).alloc (by simp [go_sem]) _⟩
end Go.Proofs.Ytbfbfpjfmdannaa
