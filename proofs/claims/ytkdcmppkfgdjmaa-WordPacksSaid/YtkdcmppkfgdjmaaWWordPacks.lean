/-
  WORD: the walk of the law WordPacks.
-/
import Derived.Test.YtkdcmppkfgdjmaaWordD
import Derived.Test.YtkdcmppkfgdjmaaAfter
namespace Go.Proofs.Ytkdcmppkfgdjmaa
open Go.ChangeShapes Go.WideShapes Go.ChangeAt Go.RowKit

set_option maxHeartbeats 1000000 in
theorem walkWordPacks (i : Int) (m : Bool) (c n x : Int) (w : World) (hi : -9223372036854775808 ≤ i ∧ i ≤ 9223372036854775807) (hc : -9223372036854775808 ≤ c ∧ c ≤ 9223372036854775807)
    (hn : -9223372036854775808 ≤ n ∧ n ≤ 9223372036854775807) (hx : -9223372036854775808 ≤ x ∧ x ≤ 9223372036854775807) :
    Calls Try.prog 3 #[.agg #[.int .i64 i, .bool m, .int .i64 c], .int .i64 n, .int .i64 x] w fun e w' => e = .returned (.bool true) ∧ Below w.heap.size w w' := by
  go_enter Try.func3, Try.ntmps3
  go_wp2_with fail
  refine (awake_any _).mono ?_
  rintro e w1 ⟨rfl, hb1⟩
  have hsz : w.heap.size < w1.heap.size := by have := hb1.size; simp [go_sem] at this; omega
  have k0 : ∀ y : After w1, y.w.cell? ⟨w.heap.size, 0, none⟩ = some (.int .i64 i) := fun y => by rw [y.cell hsz, hb1.cell (p := ⟨w.heap.size, 0, none⟩) (by simp [go_sem])]; simp [go_sem]
  have k1 : ∀ y : After w1, y.w.cell? ⟨w.heap.size, 1, none⟩ = some (.bool m) := fun y => by rw [y.cell hsz, hb1.cell (p := ⟨w.heap.size, 1, none⟩) (by simp [go_sem])]; simp [go_sem]
  have k2 : ∀ y : After w1, y.w.cell? ⟨w.heap.size, 2, none⟩ = some (.int .i64 c) := fun y => by rw [y.cell hsz, hb1.cell (p := ⟨w.heap.size, 2, none⟩) (by simp [go_sem])]; simp [go_sem]
  go_wp2_with fail
  refine wp_region_after (by kernel_rfl) (by kernel_rfl) ?_
  repeat (go_big_quiet_step (first
    | (go_at_call 10; exact calls_after (pack_any _ _ _ _ hi hc))
    | (go_at_call 11; exact calls_after (rpack_any _ _ _ _ hi hc))
    | (go_at_call 12; exact calls_after (of_any _ _ hn))
    | (go_at_call 13; exact calls_after (rof_any _ _ hn))
    | (go_at_call 14; exact calls_after (turn_any _ _ _ _ _ hc hx))
    | (go_at_call 15; exact calls_after (rturn_any _ _ _ _ _ hc hx))))
  refine wpQuiet_nil ?_
  rintro _ ⟨y, rfl⟩
  go_wp2_with fail
  all_goals (go_ret; exact ⟨rfl, ((Below.refl _ _).alloc (Nat.le_refl _) _).trans ((below_trans hb1 y.bel).mono (by simp [go_sem]))⟩)

end Go.Proofs.Ytkdcmppkfgdjmaa
