/-
  SP: of no program: forks, each within the one ahead.
-/
import Derived.Test.YtjpimaiogdckpaaSpP
namespace Go.Proofs.Ytjpimaiogdckpaa
open Go.ChangeShapes Go.WideShapes Go.ChangeAt Go.RowKit

/-- the strand in which the i-th fork is -/
def dStrand (i : Nat) : Nat := 3 * i - 2
def deepFork (i : Nat) : SplV := ⟨1, (dStrand i : Nat), (3 * i + 1 : Nat), (3 * i + 2 : Nat), (3 * i + 3 : Nat)⟩
def deepForks (n : Nat) : List SplV := (List.range n).map deepFork
/-- the strand that ends c-th -/
def dEnd (n c : Nat) : Nat := if c = 0 then 3 * n - 2 else 3 * (n - c) + 3
def deepTail (n c : Nat) : List SplV := [⟨2, (dEnd n c : Nat), 0, 0, (3 * (n - 1 - c) + 3 : Nat)⟩, ⟨3, (3 * (n - 1 - c) + 2 : Nat), 0, 0, (3 * (n - 1 - c) + 3 : Nat)⟩]
def deepTails (n c : Nat) : List SplV := (List.range c).flatMap (deepTail n)
def deepL (n : Nat) : List SplV := deepForks n ++ deepTails n n
theorem deepForks_succ (n : Nat) : deepForks (n + 1) = deepForks n ++ [deepFork n] := by unfold deepForks; rw [List.range_succ, List.map_append]; rfl
theorem deepTails_succ (n c : Nat) : deepTails n (c + 1) = deepTails n c ++ deepTail n c := by unfold deepTails; rw [List.range_succ, List.flatMap_append]; simp
theorem deepForks_len (n : Nat) : (deepForks n).length = n := by unfold deepForks; simp
theorem deepTails_len (n : Nat) : ∀ c, (deepTails n c).length = 2 * c
  | 0 => rfl
  | c + 1 => by rw [deepTails_succ, List.length_append, deepTails_len n c]; show _ + 2 = _; omega
theorem deepL_len (n : Nat) : (deepL n).length = 3 * n := by unfold deepL; rw [List.length_append, deepForks_len, deepTails_len]; omega
def deepIs (n : Nat) : Bool :=
  match spRun .zero (deepL n) with
  | none => false
  | some s => decide (s.n = 3 * n + 1) && (let os := placesOf s; (List.range (3 * n + 1)).all (fun a => (a == 3 || aheadP os a 3) && (a == 0 || aheadP os 0 a)) && (List.range n).all fun i => (List.range i).all fun k => parP os (3 * i + 1) (3 * k + 2) && parP os (3 * i + 3) (3 * k + 2))
set_option maxRecDepth 100000 in
theorem deep_is : (List.range 12).all (fun n => deepIs (n + 1)) = true := by decide +kernel
theorem deep_run (n : Nat) (h1 : 1 ≤ n) (h2 : n ≤ 12) : ∃ s, spRun .zero (deepL n) = some s ∧ s.n = 3 * n + 1 ∧ (∀ a, a < 3 * n + 1 → a ≠ 3 → aheadP (placesOf s) a 3 = true) ∧ (∀ a, a < 3 * n + 1 → a ≠ 0 → aheadP (placesOf s) 0 a = true) ∧ ∀ i, i < n → ∀ k, k < i → parP (placesOf s) (3 * i + 1) (3 * k + 2) = true ∧ parP (placesOf s) (3 * i + 3) (3 * k + 2) = true := by
  have h := List.all_eq_true.1 deep_is (n - 1) (by simp; omega)
  rw [show n - 1 + 1 = n by omega] at h
  unfold deepIs at h
  cases hs : spRun .zero (deepL n) with
  | none => rw [hs] at h; cases h
  | some s =>
    rw [hs] at h
    dsimp only at h
    rw [Bool.and_eq_true, Bool.and_eq_true] at h
    obtain ⟨g1, g2, g3⟩ := h
    refine ⟨s, rfl, of_decide_eq_true g1, fun a ha h3 => ?_, fun a ha h0 => ?_, fun i hi k hk => ?_⟩
    · have := List.all_eq_true.1 g2 a (by simp; omega)
      simp only [Bool.and_eq_true, Bool.or_eq_true, beq_iff_eq] at this
      rcases this.1 with h | h
      · exact absurd h h3
      · exact h
    · have := List.all_eq_true.1 g2 a (by simp; omega)
      simp only [Bool.and_eq_true, Bool.or_eq_true, beq_iff_eq] at this
      rcases this.2 with h | h
      · exact absurd h h0
      · exact h
    · have := List.all_eq_true.1 (List.all_eq_true.1 g3 i (by simp; omega)) k (by simp; omega)
      simpa using this
end Go.Proofs.Ytjpimaiogdckpaa
