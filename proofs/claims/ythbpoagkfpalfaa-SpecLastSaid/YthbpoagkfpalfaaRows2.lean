/-
  Several rows of the call's own, side by side: an append to one leaves the others as they are.
-/
import Derived.WalkKit
import Derived.Below
import Derived.OwnWalk
import Derived.Maps.AppendAt
namespace Go.Proofs.Ythbpoagkfpalfaa
open Go.RowKit

/-- two values lie in no block together -/
def Apart2 (u v : Value) : Prop := ∀ i, u.ownBlock = some i → v.ownBlock ≠ some i
theorem Apart2.symm {u v : Value} (h : Apart2 u v) : Apart2 v u := fun i h1 h2 => h i h2 h1
theorem Apart2.nil (v : Value) : Apart2 (.slice none 0 0) v := fun i h => by cases h
theorem row_kept {w w' : World} {B : Nat} {e : TypeId} {sz n : Nat} {u v : Value} {xs : List Value} (h : w.ownsRow B e sz v n xs) (hg : w.grownBy w' u.ownBlock) (ha : Apart2 u v) : w'.ownsRow B e sz v n xs := by
  refine h.kept hg ?_
  cases hv : v.ownBlock with
  | none => exact .inl rfl
  | some i => exact .inr fun e2 => ha i e2.symm hv
theorem apart_kept {w : World} {B : Nat} {e : TypeId} {sz n : Nat} {u u' v : Value} {xs : List Value} (ha : Apart2 u v) (h : w.ownsRow B e sz v n xs) (hat : u'.ownBlock = u.ownBlock ∨ u'.ownBlock = some w.heap.size) : Apart2 u' v := by
  intro i hi hv
  rcases hat with e2 | e2
  · rw [e2] at hi; exact ha i hi hv
  · rw [e2] at hi
    cases hi
    have := (h.lt _ hv).2
    omega
end Go.Proofs.Ythbpoagkfpalfaa
