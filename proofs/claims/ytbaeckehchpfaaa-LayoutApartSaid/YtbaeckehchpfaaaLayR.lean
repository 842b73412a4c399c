/-
  LAYOUT: the document's at, in.
-/
import Derived.Test.YtbaeckehchpfaaaRows
import Derived.ProofKit
import Derived.Test.YtbaeckehchpfaaaLayU
import Derived.Test.YtbaeckehchpfaaaAfter
namespace Go.Proofs.Ytbaeckehchpfaaa
open Go.ChangeShapes Go.WideShapes Go.ChangeAt Go.RowKit

theorem rat_yes (c : Int) (w : World) : Calls Try.prog 58 #[.int .i64 c, .bool true] w fun e w' => e = .returned (.int .i64 c) ∧ Below w.heap.size w w' := by
  go_enter Try.func58, Try.ntmps58
  go_wp2_with fail
  go_ret
  exact ⟨rfl, Below.refl _ _⟩

theorem rat_no (c : Int) (w : World) : Calls Try.prog 58 #[.int .i64 c, .bool false] w fun e w' => e = .returned (.int .i64 (-1)) ∧ Below w.heap.size w w' := by
  go_enter Try.func58, Try.ntmps58
  go_wp2_with fail
  go_ret
  exact ⟨rfl, Below.refl _ _⟩

theorem rin_yes (n lo hi : Int) (h : lo ≤ n ∧ n ≤ hi) (w : World) : Calls Try.prog 27 #[.int .i64 n, .int .i64 lo, .int .i64 hi] w fun e w' => e = .returned (.bool true) ∧ Below w.heap.size w w' :=
  (rin_any n lo hi w).mono fun e w' ⟨h1, h2⟩ => ⟨by rw [h1, show inP n lo hi = true by unfold inP; simp; exact h], h2 ▸ Below.refl _ _⟩

theorem rin_no (n lo hi : Int) (h : ¬ (lo ≤ n ∧ n ≤ hi)) (w : World) : Calls Try.prog 27 #[.int .i64 n, .int .i64 lo, .int .i64 hi] w fun e w' => e = .returned (.bool false) ∧ Below w.heap.size w w' :=
  (rin_any n lo hi w).mono fun e w' ⟨h1, h2⟩ => ⟨by rw [h1, show inP n lo hi = false by unfold inP; simp; omega], h2 ▸ Below.refl _ _⟩
end Go.Proofs.Ytbaeckehchpfaaa
