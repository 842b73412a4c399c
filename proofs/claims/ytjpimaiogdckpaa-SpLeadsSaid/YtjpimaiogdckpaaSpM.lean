/-
  SP: which splits may be: mayBe, of all rows of up to three hundred splits.
-/
import Derived.Test.YtjpimaiogdckpaaSpT
import Derived.LoopTactic
import Derived.Deep.QuietTactic
import Derived.BigQuiet
namespace Go.Proofs.Ytjpimaiogdckpaa
open Go.ChangeShapes Go.WideShapes Go.ChangeAt Go.RowKit

theorem run_take {l : List SplV} {i : Nat} {s : SpS} (hi : i < l.length) (h : spRun .zero (l.take i) = some s) : spRun .zero (l.take (i + 1)) = spStep s l[i] := by
  rw [List.take_succ_eq_append_getElem hi, run_append, h]
  show (spStep s l[i]).bind some = _
  cases spStep s l[i] <;> rfl
theorem run_dead {l : List SplV} {i : Nat} {s : SpS} (hi : i < l.length) (h : spRun .zero (l.take i) = some s) (hd : spStep s l[i] = none) : (spRun .zero l).isSome = false := by
  have h1 : l = l.take (i + 1) ++ l.drop (i + 1) := (List.take_append_drop _ _).symm
  rw [h1, run_append, run_take hi h, hd]
  rfl

theorem step_st {s t : SpS} {x : SplV} (h : spStep s x = some t) : t.st.length ≤ s.st.length + 1 := by
  obtain ⟨n, st, E, H⟩ := s
  unfold spStep at h
  dsimp only at h ⊢
  match st, h with
  | [], h => cases h
  | (a, j) :: r, h =>
    dsimp only at h
    split at h
    · cases h
    split at h
    · repeat' split at h
      all_goals first | (cases h; done) | (injection h with h; subst h; simp)
    split at h
    · match r, h with
      | [], h => cases h
      | (a1, j1) :: r1, h =>
        dsimp only at h
        split at h
        · injection h with h; subst h; simp
        · cases h
    split at h
    · split at h
      · injection h with h; subst h; simp
      · cases h
    · cases h
theorem run_st : ∀ (l : List SplV) {s t : SpS}, spRun s l = some t → t.st.length ≤ s.st.length + l.length
  | [], s, t, h => by injection h with h; subst h; simp
  | x :: l, s, t, h => by
    unfold spRun at h
    cases hs : spStep s x with
    | none => rw [hs] at h; cases h
    | some u =>
      rw [hs] at h
      have h1 := step_st hs
      have h2 := run_st l (s := u) (t := t) h
      rw [List.length_cons]
      omega

section
variable {n : Nat} {E H : List Int} {r : List (Nat × Nat)} {a j : Nat} {kd A B C D : Int}
theorem st_ne (h : A ≠ a) : spStep ⟨n, (a, j) :: r, E, H⟩ ⟨kd, A, B, C, D⟩ = none := by
  unfold spStep; simp [h]
theorem st_else (h1 : kd ≠ 1) (h2 : kd ≠ 2) (h3 : kd ≠ 3) : spStep ⟨n, (a, j) :: r, E, H⟩ ⟨kd, a, B, C, D⟩ = none := by
  unfold spStep; simp [h1, h2, h3]
theorem st_fork0 (h : (⟨1, a, B, C, D⟩ : SplV) = ⟨1, a, n, (n : Int) + 1, (n : Int) + 2⟩) : spStep ⟨n, (a, 0) :: r, E, H⟩ ⟨1, a, B, C, D⟩ = some ⟨n + 3, (n, 0) :: (n + 1, n + 2) :: r, forkE E a n true, forkH H a n true⟩ := by
  unfold spStep; simp at h ⊢; simp [h]
theorem st_fork0_no (h : (⟨1, a, B, C, D⟩ : SplV) ≠ ⟨1, a, n, (n : Int) + 1, (n : Int) + 2⟩) : spStep ⟨n, (a, 0) :: r, E, H⟩ ⟨1, a, B, C, D⟩ = none := by
  unfold spStep; simp at h ⊢; intro h1 h2; simpa using h h1 h2
theorem st_fork1 (hj : j ≠ 0) (h : (⟨1, a, B, C, D⟩ : SplV) = ⟨1, a, n, (n : Int) + 1, j⟩) : spStep ⟨n, (a, j) :: r, E, H⟩ ⟨1, a, B, C, D⟩ = some ⟨n + 2, (n, 0) :: (n + 1, j) :: r, forkE E a n false, forkH H a n false⟩ := by
  unfold spStep; simp at h ⊢; simp [h, hj]
theorem st_fork1_no (hj : j ≠ 0) (h : (⟨1, a, B, C, D⟩ : SplV) ≠ ⟨1, a, n, (n : Int) + 1, j⟩) : spStep ⟨n, (a, j) :: r, E, H⟩ ⟨1, a, B, C, D⟩ = none := by
  unfold spStep; simp [hj] at h ⊢; intro h1 h2; simpa using h h1 h2
theorem st_end0 : spStep ⟨n, [(a, j)], E, H⟩ ⟨2, a, B, C, D⟩ = none := by
  unfold spStep; simp
theorem st_end {a1 j1 : Nat} (h : (⟨2, a, B, C, D⟩ : SplV) = ⟨2, a, 0, 0, j1⟩) : spStep ⟨n, (a, 0) :: (a1, j1) :: r, E, H⟩ ⟨2, a, B, C, D⟩ = some ⟨n, (a1, j1) :: r, E, H⟩ := by
  unfold spStep; simp at h ⊢; simp [h]
theorem st_end_no {a1 j1 : Nat} (h : j ≠ 0 ∨ (⟨2, a, B, C, D⟩ : SplV) ≠ ⟨2, a, 0, 0, j1⟩) : spStep ⟨n, (a, j) :: (a1, j1) :: r, E, H⟩ ⟨2, a, B, C, D⟩ = none := by
  unfold spStep
  rcases h with h | h
  · simp [h]
  · simp at h ⊢; intro h1 h2 h3; exact h h2 h3
theorem st_join (hj : j ≠ 0) (h : (⟨3, a, B, C, D⟩ : SplV) = ⟨3, a, 0, 0, j⟩) : spStep ⟨n, (a, j) :: r, E, H⟩ ⟨3, a, B, C, D⟩ = some ⟨n, (j, 0) :: r, E, H⟩ := by
  unfold spStep; simp at h ⊢; simp [h, hj]
theorem st_join_no (h : j = 0 ∨ (⟨3, a, B, C, D⟩ : SplV) ≠ ⟨3, a, 0, 0, j⟩) : spStep ⟨n, (a, j) :: r, E, H⟩ ⟨3, a, B, C, D⟩ = none := by
  unfold spStep
  rcases h with h | h
  · simp [h]
  · simp at h ⊢; intro h1 h2 h3; exact h h2 h3
end
end Go.Proofs.Ytjpimaiogdckpaa
