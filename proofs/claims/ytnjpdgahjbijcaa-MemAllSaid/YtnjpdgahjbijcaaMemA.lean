/-
  MEM: what an access makes, as plain functions; and the contracts of Right, why.
-/
import Derived.Test.YtnjpdgahjbijcaaRows
import Derived.ProofKit
import Derived.Outline
import Derived.Test.YtnjpdgahjbijcaaInts
import Derived.Test.YtnjpdgahjbijcaaAfter
import Derived.Test.YtnjpdgahjbijcaaTail
namespace Go.Proofs.Ytnjpdgahjbijcaa
open Go.ChangeShapes Go.WideShapes Go.ChangeAt Go.RowKit

/-- may an access be? -/
def rightB (k c o n : Int) : Bool := decide (1 ≤ k ∧ k ≤ 5 ∧ 0 ≤ c ∧ (k = 3 ∨ o = 0) ∧ (k = 1 → n = 0))

theorem ret_bool {a b : Bool} (h : a = b) : Ending.returned (.bool a) = .returned (.bool b) := by rw [h]

set_option maxHeartbeats 1000000 in
theorem right_any (k c o n : Int) (w : World) :
    Calls Try.prog 13 #[.agg #[.int .i64 k, .int .i64 c, .int .i64 o, .int .i64 n]] w fun e w' => e = .returned (.bool (rightB k c o n)) ∧ Below w.heap.size w w' := by
  go_enter Try.func13, Try.ntmps13
  go_wp2
  all_goals go_ret
  all_goals refine ⟨ret_bool ?_, (Below.refl _ _).alloc (Nat.le_refl _) _⟩
  all_goals (rw [Bool.eq_iff_iff]; first | (simp [rightB] at *; omega) | (simp [rightB] at *; done))

set_option maxHeartbeats 1000000 in
theorem rright_any (k c o n : Int) (w : World) :
    Calls Try.prog 14 #[.agg #[.int .i64 k, .int .i64 c, .int .i64 o, .int .i64 n]] w fun e w' => e = .returned (.bool (rightB k c o n)) ∧ Below w.heap.size w w' := by
  go_enter Try.func14, Try.ntmps14
  go_wp2
  all_goals go_ret
  all_goals refine ⟨ret_bool ?_, (Below.refl _ _).alloc (Nat.le_refl _) _⟩
  all_goals (rw [Bool.eq_iff_iff]; simp [rightB]; omega)

/-- why an access can't be done (0: it can) -/
def whyF (len : Nat) (k c o n : Int) : Int := if rightB k c o n = false then 1 else if (len : Int) ≤ c then 12 else 0

set_option maxHeartbeats 1000000 in
theorem why_any (p : Option Addr) (len cap : Nat) (k c o n : Int) (w : World) :
    Calls Try.prog 20 #[.agg #[.slice p len cap], .agg #[.int .i64 k, .int .i64 c, .int .i64 o, .int .i64 n]] w fun e w' => e = .returned (.int .i64 (whyF len k c o n)) ∧ Below w.heap.size w w' := by
  cases hr : rightB k c o n
  · go_enter Try.func20, Try.ntmps20
    go_wp2_with fail
    refine (right_any _ _ _ _ _).mono ?_
    rintro e w1 ⟨rfl, hb1⟩
    rw [hr]
    go_wp2_with fail
    go_ret
    exact ⟨by simp [whyF, hr], (((Below.refl _ _).alloc (Nat.le_refl _) _).alloc (by simp [go_sem]) _).trans (hb1.mono (by simp [go_sem]; omega))⟩
  · by_cases hl : (len : Int) ≤ c
    all_goals
      go_enter Try.func20, Try.ntmps20
      go_wp2_with fail
      refine (right_any _ _ _ _ _).mono ?_
      rintro e w1 ⟨rfl, hb1⟩
      rw [hr]
      have c0 : w1.cell? ⟨w.heap.size, 0, none⟩ = some (.slice p len cap) := by rw [hb1.cell (p := ⟨w.heap.size, 0, none⟩) (by simp [go_sem])]; simp [go_sem]
      have c1 : w1.cell? ⟨w.heap.size + 1, 1, none⟩ = some (.int .i64 c) := by rw [hb1.cell (p := ⟨w.heap.size + 1, 1, none⟩) (by simp [go_sem])]; simp [go_sem]
      go_wp2_with fail
      go_ret
      exact ⟨by simp [whyF, hr, hl], (((Below.refl _ _).alloc (Nat.le_refl _) _).alloc (by simp [go_sem]) _).trans (hb1.mono (by simp [go_sem]; omega))⟩

end Go.Proofs.Ytnjpdgahjbijcaa
