/-
  LEX: digits as a number; the finders.
-/
import Derived.Test.YtplndghcileghaaDoorRows
import Derived.ProofKit
import Derived.Test.YtplndghcileghaaDoorLexD
namespace Go.Proofs.YtplndghcileghaaDoor
open Go.ChangeShapes Go.WideShapes Go.ChangeAt Go.RowKit

theorem digits_from : ∀ (l : List UInt8) (acc : Nat), (∀ b ∈ l, digitB (b.toNat : Int) = true) → Lib.decFrom acc l = some (l.foldl (fun a b => a * 10 + (b.toNat - 48)) acc)
  | [], acc, _ => rfl
  | b :: r, acc, h => by
    have hb := h b (List.mem_cons_self ..)
    unfold digitB at hb
    simp at hb
    have hd : Lib.digitVal b = some (b.toNat - 48) := by unfold Lib.digitVal; rw [if_pos (by omega)]
    unfold Lib.decFrom
    rw [hd]
    exact digits_from r _ (fun c hc => h c (List.mem_cons_of_mem _ hc))

theorem digits_atoi (l : List UInt8) (hl : l ≠ []) (h : ∀ b ∈ l, digitB (b.toNat : Int) = true) : Lib.atoi l = some (numV l : Int) := by
  cases l with
  | nil => exact absurd rfl hl
  | cons b r =>
    have hb := h b (List.mem_cons_self ..)
    unfold digitB at hb
    simp at hb
    have h1 : (b == 45) = false := by
      rw [Bool.eq_false_iff]; intro e; have e := eq_of_beq e; subst e; exact absurd hb.1 (by decide)
    have h2 : (b == 43) = false := by
      rw [Bool.eq_false_iff]; intro e; have e := eq_of_beq e; subst e; exact absurd hb.1 (by decide)
    show (if (b == 45) = true then (Lib.decNat r).map fun (m : Nat) => -(m : Int) else if (b == 43) = true then (Lib.decNat r).map fun (m : Nat) => (m : Int) else (Lib.decNat (b :: r)).map fun (m : Nat) => (m : Int)) = _
    rw [h1, h2]
    have hn : Lib.decNat (b :: r) = some (numV (b :: r)) := by
      unfold Lib.decNat
      rw [digits_from (b :: r) 0 h]
      rfl
    rw [hn]
    rfl

/-- the three finders as they lie behind one another -/
def finderCells : Array Value := #[.int .i64 1, .func (Fn.func 25) #[] #[], .func (Fn.func 26) #[] #[], .func (Fn.func 27) #[] #[],
  .int .i64 2, .func (Fn.func 28) #[] #[], .func (Fn.func 29) #[] #[], .func (Fn.func 30) #[] #[],
  .int .i64 3, .func (Fn.func 31) #[] #[], .func (Fn.func 32) #[] #[], .func (Fn.func 33) #[] #[]]

theorem finders_any (w : World) : Calls Tryd.prog 18 #[] w fun e w' => e = .returned (.slice (some ⟨w.heap.size, 0, none⟩) 3 3) ∧ ∃ T, w' = w.alloc (.cells finderCells T) := by
  go_enter Tryd.func18, Tryd.ntmps18
  go_wp2_with fail
  go_ret
  exact ⟨rfl, _, rfl⟩
end Go.Proofs.YtplndghcileghaaDoor
