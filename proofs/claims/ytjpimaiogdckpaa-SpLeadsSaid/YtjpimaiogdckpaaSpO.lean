/-
  SP: what the walk of Of wants: steps by their kind; a row of pairs that is filled.
-/
import Derived.Test.YtjpimaiogdckpaaSpM
import Derived.Test.YtjpimaiogdckpaaSpB
import Derived.Laws.MakeOwn
namespace Go.Proofs.Ytjpimaiogdckpaa
open Go.ChangeShapes Go.WideShapes Go.ChangeAt Go.RowKit

theorem run_prefix {l : List SplV} {s : SpS} (h : spRun .zero l = some s) (i : Nat) : ∃ t, spRun .zero (l.take i) = some t := by
  have h1 : l = l.take i ++ l.drop i := (List.take_append_drop _ _).symm
  rw [h1, run_append] at h
  cases ht : spRun .zero (l.take i) with
  | none => rw [ht] at h; cases h
  | some t => exact ⟨t, rfl⟩
theorem step_other {s t : SpS} {x : SplV} (h : spStep s x = some t) (hk : x.kind ≠ 1) : t.n = s.n ∧ t.E = s.E ∧ t.H = s.H := by
  obtain ⟨n, st, E, H⟩ := s
  unfold spStep at h
  match st, h with
  | [], h => cases h
  | (a, j) :: r, h =>
    dsimp only at h
    split at h
    · cases h
    split at h
    · match r, h with
      | [], h => cases h
      | (a1, j1) :: r1, h =>
        dsimp only at h
        split at h
        · injection h with h; subst h; exact ⟨rfl, rfl, rfl⟩
        · cases h
    split at h
    · split at h
      · injection h with h; subst h; exact ⟨rfl, rfl, rfl⟩
      · cases h
    · cases h
theorem step_fork {s t : SpS} {A B C D : Int} (h : spStep s ⟨1, A, B, C, D⟩ = some t) (hs : s.Ok) : ∃ a : Nat, a < s.n ∧ A = a ∧ B = s.n ∧ C = (s.n : Int) + 1 ∧ ((D = (s.n : Int) + 2 ∧ t.n = s.n + 3 ∧ t.E = behL (behL (behL s.E a) s.n) (s.n + 1) ∧ t.H = behL (behL (behL s.H a) a) s.n) ∨ (D ≠ (s.n : Int) + 2 ∧ t.n = s.n + 2 ∧ t.E = behL (behL s.E a) s.n ∧ t.H = behL (behL s.H a) a)) := by
  obtain ⟨n, st, E, H⟩ := s
  have h5 := hs.st
  match st, h5 with
  | [], h5 => cases h
  | (a, j) :: r, h5 =>
    have ha := (h5 (a, j) (by simp)).1
    have hj := (h5 (a, j) (by simp)).2
    dsimp only at ha hj ⊢
    by_cases e0 : A = a
    case neg => rw [st_ne e0] at h; cases h
    subst e0
    refine ⟨a, ha, rfl, ?_⟩
    by_cases hj0 : j = 0
    · subst hj0
      by_cases e : (⟨1, a, B, C, D⟩ : SplV) = ⟨1, a, n, (n : Int) + 1, (n : Int) + 2⟩
      · rw [st_fork0 e] at h
        injection h with h
        subst h
        simp only [SplV.mk.injEq, true_and] at e
        exact ⟨e.1, e.2.1, .inl ⟨e.2.2, rfl, rfl, rfl⟩⟩
      · rw [st_fork0_no e] at h; cases h
    · by_cases e : (⟨1, a, B, C, D⟩ : SplV) = ⟨1, a, n, (n : Int) + 1, j⟩
      · rw [st_fork1 hj0 e] at h
        injection h with h
        subst h
        simp only [SplV.mk.injEq, true_and] at e
        exact ⟨e.1, e.2.1, .inr ⟨by rw [e.2.2]; omega, rfl, rfl, rfl⟩⟩
      · rw [st_fork1_no hj0 e] at h; cases h

/-- pairs of numbers in a block of their own: the first ones, the second ones -/
def Prs (w : World) (g : Nat) (T : TypeId) (N : Nat) (f0 f1 : Nat → Int) : Prop :=
  ∃ cur, Blk w g T cur ∧ cur.size = N * 2 ∧ ∀ x, x < N → cur[x * 2]? = some (.int .i64 (f0 x)) ∧ cur[x * 2 + 1]? = some (.int .i64 (f1 x))
theorem made2_at (m x : Nat) (h : x < m) : (madeCells #[Value.int .i64 0, .int .i64 0] m)[x]? = some (.int .i64 0) := by
  unfold madeCells
  rw [Array.getElem?_map, Array.getElem?_range, if_pos h]
  have : x % 2 = 0 ∨ x % 2 = 1 := by omega
  rcases this with e | e <;> simp [e]
theorem Prs.made (w : World) (T : TypeId) (N : Nat) : Prs (w.alloc (.cells (madeCells #[Value.int .i64 0, .int .i64 0] (N * 2)) T)) w.heap.size T N (fun _ => 0) (fun _ => 0) :=
  ⟨_, Blk.made _ _ _, size_madeCells _ _, fun x hx => ⟨made2_at _ _ (by omega), made2_at _ _ (by omega)⟩⟩
theorem Prs.later {w w1 : World} {g : Nat} {T : TypeId} {N : Nat} {f0 f1 : Nat → Int} (h : Prs w g T N f0 f1) (hb : Below w.heap.size w w1) : Prs w1 g T N f0 f1 := by
  obtain ⟨cur, h1, h2⟩ := h
  exact ⟨cur, h1.later hb, h2⟩
theorem Prs.lt {w : World} {g : Nat} {T : TypeId} {N : Nat} {f0 f1 : Nat → Int} (h : Prs w g T N f0 f1) : g < w.heap.size := by
  obtain ⟨cur, h1, _⟩ := h
  exact h1.lt
theorem Prs.cells {w : World} {g : Nat} {T : TypeId} {N : Nat} {f0 f1 : Nat → Int} (h : Prs w g T N f0 f1) (x : Nat) (hx : x < N) : (w.cell? ⟨g, x * 2, none⟩ = some (.int .i64 (f0 x)) ∧ w.cell? ⟨g, x * 2 + 1, none⟩ = some (.int .i64 (f1 x))) ∧ w.frozen? ⟨g, x * 2, none⟩ = false ∧ w.frozen? ⟨g, x * 2 + 1, none⟩ = false := by
  obtain ⟨cur, h1, h2, h3⟩ := h
  exact ⟨⟨by rw [h1.cell]; exact (h3 x hx).1, by rw [h1.cell]; exact (h3 x hx).2⟩, h1.free _, h1.free _⟩
theorem Prs.put0 {w : World} {g : Nat} {T : TypeId} {N : Nat} {f0 f1 : Nat → Int} (h : Prs w g T N f0 f1) (x : Nat) (v : Int) : Prs (w.setCell ⟨g, x * 2, none⟩ (.int .i64 v)) g T N (fun y => if y = x then v else f0 y) f1 := by
  obtain ⟨cur, h1, h2, h3⟩ := h
  refine ⟨_, h1.put _ _, by simpa using h2, fun y hy => ?_⟩
  have hs : y * 2 + 1 < cur.size := by rw [h2]; omega
  constructor
  · dsimp only
    by_cases e : y = x
    · subst e
      rw [Array.getElem?_setIfInBounds_self, if_pos (by omega), if_pos rfl]
    · rw [Array.getElem?_setIfInBounds_ne (by omega), if_neg e]
      exact (h3 y hy).1
  · rw [Array.getElem?_setIfInBounds_ne (by omega)]
    exact (h3 y hy).2
theorem Prs.put1 {w : World} {g : Nat} {T : TypeId} {N : Nat} {f0 f1 : Nat → Int} (h : Prs w g T N f0 f1) (x : Nat) (v : Int) : Prs (w.setCell ⟨g, x * 2 + 1, none⟩ (.int .i64 v)) g T N f0 (fun y => if y = x then v else f1 y) := by
  obtain ⟨cur, h1, h2, h3⟩ := h
  refine ⟨_, h1.put _ _, by simpa using h2, fun y hy => ?_⟩
  have hs : y * 2 + 1 < cur.size := by rw [h2]; omega
  constructor
  · rw [Array.getElem?_setIfInBounds_ne (by omega)]
    exact (h3 y hy).1
  · dsimp only
    by_cases e : y = x
    · subst e
      rw [Array.getElem?_setIfInBounds_self, if_pos (by omega), if_pos rfl]
    · rw [Array.getElem?_setIfInBounds_ne (by omega), if_neg e]
      exact (h3 y hy).2

theorem nodup_idx {r : List Nat} (h : r.Nodup) {i j : Nat} (hi : i < r.length) (hj : j < r.length) (e : r[i] = r[j]) : i = j := by
  have hp := List.pairwise_iff_getElem.1 h
  rcases Nat.lt_trichotomy i j with g | g | g
  · exact absurd e (hp i j hi hj g)
  · exact g
  · exact absurd e.symm (hp j i hj hi g)
/-- the first i of a row have their places -/
def Upto (r : List Nat) (i : Nat) (f : Nat → Int) : Prop := ∀ p, p < i → f (r.getD p 0) = p
theorem Upto.zero (r : List Nat) (f : Nat → Int) : Upto r 0 f := fun p hp => by omega
theorem Upto.put {r : List Nat} {i : Nat} {f : Nat → Int} (h : Upto r i f) (hnd : r.Nodup) (hi : i < r.length) : Upto r (i + 1) (fun y => if y = r.getD i 0 then (i : Int) else f y) := fun p hp => by
  by_cases e : p = i
  · subst e; simp
  · have hne : r.getD p 0 ≠ r.getD i 0 := fun e2 => e (by
      rw [List.getD_eq_getElem?_getD, List.getElem?_eq_getElem (by omega), List.getD_eq_getElem?_getD, List.getElem?_eq_getElem hi] at e2
      exact nodup_idx hnd (by omega) hi e2)
    dsimp only
    rw [if_neg hne]
    exact h p (by omega)
theorem Upto.all {l : List Int} {r : List Nat} {f : Nat → Int} (h : Upto r l.length f) (hr : IsRw l r) (x : Nat) (hx : x < l.length) : f x = (place l (l.getD x 0) : Int) := by
  have hm : x ∈ r := hr.perm.mem_iff.2 (by simpa using hx)
  obtain ⟨p, hp, rfl⟩ := List.getElem_of_mem hm
  rw [hr.place p hp]
  have := h p (by rw [← hr.len]; exact hp)
  rwa [List.getD_eq_getElem?_getD, List.getElem?_eq_getElem hp] at this
theorem Prs.pls {w : World} {g : Nat} {T : TypeId} {s : SpS} {f0 f1 : Nat → Int} (h : Prs w g T s.n f0 f1) (h0 : ∀ x, x < s.n → f0 x = (place s.E (s.E.getD x 0) : Int)) (h1 : ∀ x, x < s.n → f1 x = (place s.H (s.H.getD x 0) : Int)) : Pls w (some ⟨g, 0, none⟩) (placesOf s) := by
  refine ⟨fun i hi => ?_⟩
  rw [placesOf_len] at hi
  obtain ⟨⟨c0, c1⟩, _⟩ := h.cells i hi
  rw [placesOf_at s i hi]
  exact ⟨g, 0, rfl, h.lt, by rw [Nat.zero_add, c0, h0 i hi], by rw [Nat.zero_add, c1, h1 i hi]⟩
end Go.Proofs.Ytjpimaiogdckpaa
