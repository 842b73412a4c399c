/-
  SP, of no program: splits that may be; what they make of two lists; that more of them turn nothing.
-/
import Derived.Test.YtjpimaiogdckpaaOmQ
import Derived.Test.YtjpimaiogdckpaaSpR
namespace Go.Proofs.Ytjpimaiogdckpaa
open Go

/-- how far splits have come: the strands that are named; the tasks that are there, the last one first: strand and join; the labels of both lists -/
structure SpS where
  n : Nat
  st : List (Nat × Nat)
  E : List Int
  H : List Int

def SpS.zero : SpS := ⟨1, [(0, 0)], [0], [0]⟩

/-- what a fork makes of both lists: behind strand a, the join being new or not -/
def forkE (E : List Int) (a n : Nat) (new : Bool) : List Int := if new then behL (behL (behL E a) n) (n + 1) else behL (behL E a) n
def forkH (H : List Int) (a n : Nat) (new : Bool) : List Int := if new then behL (behL (behL H a) a) n else behL (behL H a) a

def spStep (s : SpS) (x : SplV) : Option SpS :=
  match s.st with
  | [] => none
  | (a, j) :: r =>
    if x.a ≠ a then none
    else if x.kind = 1 then
      if x = ⟨1, a, s.n, (s.n + 1 : Nat), ((if j = 0 then s.n + 2 else j : Nat) : Int)⟩ then
        some (if j = 0 then ⟨s.n + 3, (s.n, 0) :: (s.n + 1, s.n + 2) :: r, forkE s.E a s.n true, forkH s.H a s.n true⟩ else ⟨s.n + 2, (s.n, 0) :: (s.n + 1, j) :: r, forkE s.E a s.n false, forkH s.H a s.n false⟩)
      else none
    else if x.kind = 2 then
      match r with
      | [] => none
      | (a1, j1) :: r1 => if j = 0 ∧ x = ⟨2, a, 0, 0, j1⟩ then some ⟨s.n, (a1, j1) :: r1, s.E, s.H⟩ else none
    else if x.kind = 3 then
      if j ≠ 0 ∧ x = ⟨3, a, 0, 0, j⟩ then some ⟨s.n, (j, 0) :: r, s.E, s.H⟩ else none
    else none

def spRun (s : SpS) : List SplV → Option SpS
  | [] => some s
  | x :: l => (spStep s x).bind fun t => spRun t l

/-- a list of labels that grew: no two that were there change places -/
structure Grown (l L : List Int) : Prop where
  le : l.length ≤ L.length
  old : ∀ i j, i < l.length → j < l.length → (L.getD i 0 < L.getD j 0 ↔ l.getD i 0 < l.getD j 0)
theorem Grown.refl (l : List Int) : Grown l l := ⟨Nat.le_refl _, fun _ _ _ _ => Iff.rfl⟩
theorem Grown.trans {a b c : List Int} (h : Grown a b) (k : Grown b c) : Grown a c :=
  ⟨Nat.le_trans h.le k.le, fun i j hi hj => (k.old i j (Nat.lt_of_lt_of_le hi h.le) (Nat.lt_of_lt_of_le hj h.le)).trans (h.old i j hi hj)⟩
theorem Behind.grown {l L : List Int} {x : Nat} (h : Behind l x L) : Grown l L := ⟨by rw [h.len]; omega, h.old⟩

/-- a list that is one more, right -/
theorem beh_all {l : List Int} (h : Rt l) {x : Nat} (hx : x < l.length) (hn : l.length < 1000) : Rt (behL l x) ∧ (behL l x).length = l.length + 1 ∧ Grown l (behL l x) :=
  have hb := behind_ok h x hx
  ⟨hb.right hn, hb.len, hb.grown⟩

structure SpS.Ok (s : SpS) : Prop where
  pos : 1 ≤ s.n
  e : Rt s.E
  h : Rt s.H
  le : s.E.length = s.n
  lh : s.H.length = s.n
  st : ∀ t ∈ s.st, t.1 < s.n ∧ t.2 < s.n

theorem zero_ok : SpS.zero.Ok := ⟨by decide, by decide, by decide, rfl, rfl, by decide⟩

theorem fork_ok {l : List Int} (h : Rt l) {a n : Nat} (hl : l.length = n) (ha : a < n) (hn : n + 3 ≤ 1000) :
    (Rt (forkE l a n false) ∧ (forkE l a n false).length = n + 2 ∧ Grown l (forkE l a n false)) ∧ (Rt (forkE l a n true) ∧ (forkE l a n true).length = n + 3 ∧ Grown l (forkE l a n true)) ∧
    (Rt (forkH l a n false) ∧ (forkH l a n false).length = n + 2 ∧ Grown l (forkH l a n false)) ∧ (Rt (forkH l a n true) ∧ (forkH l a n true).length = n + 3 ∧ Grown l (forkH l a n true)) := by
  obtain ⟨r1, l1, g1⟩ := beh_all h (x := a) (by omega) (by omega)
  obtain ⟨r2, l2, g2⟩ := beh_all r1 (x := n) (by omega) (by omega)
  obtain ⟨r3, l3, g3⟩ := beh_all r2 (x := n + 1) (by omega) (by omega)
  obtain ⟨q2, k2, f2⟩ := beh_all r1 (x := a) (by omega) (by omega)
  obtain ⟨q3, k3, f3⟩ := beh_all q2 (x := n) (by omega) (by omega)
  exact ⟨⟨r2, by show (behL (behL l a) n).length = _; omega, g1.trans g2⟩, ⟨r3, by show (behL (behL (behL l a) n) (n + 1)).length = _; omega, (g1.trans g2).trans g3⟩, ⟨q2, by show (behL (behL l a) a).length = _; omega, g1.trans f2⟩, ⟨q3, by show (behL (behL (behL l a) a) n).length = _; omega, (g1.trans f2).trans f3⟩⟩

/-- a step keeps all right, and turns nothing -/
theorem step_ok {s t : SpS} {x : SplV} (h : s.Ok) (hn : s.n + 3 ≤ 1000) (he : spStep s x = some t) : t.Ok ∧ Grown s.E t.E ∧ Grown s.H t.H ∧ s.n ≤ t.n ∧ t.n ≤ s.n + 3 := by
  unfold spStep at he
  obtain ⟨n, st, E, H⟩ := s
  have h5 := h.st
  dsimp only at he h5 hn ⊢
  match st, he, h5 with
  | [], he, _ => cases he
  | (a, j) :: r, he, h5 =>
    dsimp only at he
    have ha := (h5 (a, j) (by simp)).1
    have hj := (h5 (a, j) (by simp)).2
    dsimp only at ha hj
    have hr : ∀ t ∈ r, t.1 < n ∧ t.2 < n := fun t ht => h5 t (by simp [ht])
    have hE := fork_ok h.e h.le ha hn
    have hH := fork_ok h.h h.lh ha hn
    by_cases c0 : x.a ≠ a
    · rw [if_pos c0] at he; cases he
    rw [if_neg c0] at he
    by_cases c1 : x.kind = 1
    · rw [if_pos c1] at he
      by_cases c2 : x = ⟨1, a, n, (n + 1 : Nat), ((if j = 0 then n + 2 else j : Nat) : Int)⟩
      · rw [if_pos c2] at he
        injection he with he
        subst he
        by_cases c3 : j = 0
        · rw [if_pos c3]
          obtain ⟨_, ⟨e1, e2, e3⟩, _, _⟩ := hE
          obtain ⟨_, _, _, ⟨k1, k2, k3⟩⟩ := hH
          refine ⟨⟨by show 1 ≤ n + 3; omega, e1, k1, e2, k2, fun t ht => ?_⟩, e3, k3, by show n ≤ n + 3; omega, Nat.le_refl _⟩
          simp only [List.mem_cons] at ht
          rcases ht with rfl | rfl | ht
          · exact ⟨by show n < n + 3; omega, by show 0 < n + 3; omega⟩
          · exact ⟨by show n + 1 < n + 3; omega, by show n + 2 < n + 3; omega⟩
          · have := hr t ht; exact ⟨by show t.1 < n + 3; omega, by show t.2 < n + 3; omega⟩
        · rw [if_neg c3]
          obtain ⟨⟨e1, e2, e3⟩, _, _, _⟩ := hE
          obtain ⟨_, _, ⟨k1, k2, k3⟩, _⟩ := hH
          refine ⟨⟨by show 1 ≤ n + 2; omega, e1, k1, e2, k2, fun t ht => ?_⟩, e3, k3, by show n ≤ n + 2; omega, by show n + 2 ≤ n + 3; omega⟩
          simp only [List.mem_cons] at ht
          rcases ht with rfl | rfl | ht
          · exact ⟨by show n < n + 2; omega, by show 0 < n + 2; omega⟩
          · exact ⟨by show n + 1 < n + 2; omega, by show j < n + 2; omega⟩
          · have := hr t ht; exact ⟨by show t.1 < n + 2; omega, by show t.2 < n + 2; omega⟩
      · rw [if_neg c2] at he; cases he
    rw [if_neg c1] at he
    by_cases c2 : x.kind = 2
    · rw [if_pos c2] at he
      match r, he, hr with
      | [], he, _ => cases he
      | (a1, j1) :: r1, he, hr =>
        dsimp only at he
        split at he
        · injection he with he
          subst he
          exact ⟨⟨h.pos, h.e, h.h, h.le, h.lh, hr⟩, Grown.refl _, Grown.refl _, Nat.le_refl _, by show n ≤ n + 3; omega⟩
        · cases he
    rw [if_neg c2] at he
    by_cases c3 : x.kind = 3
    · rw [if_pos c3] at he
      split at he
      · injection he with he
        subst he
        refine ⟨⟨h.pos, h.e, h.h, h.le, h.lh, fun t ht => ?_⟩, Grown.refl _, Grown.refl _, Nat.le_refl _, by show n ≤ n + 3; omega⟩
        simp only [List.mem_cons] at ht
        rcases ht with rfl | ht
        · exact ⟨hj, h.pos⟩
        · exact hr t ht
      · cases he
    rw [if_neg c3] at he
    cases he

theorem run_ok : ∀ (l : List SplV) {s t : SpS}, s.Ok → s.n + 3 * l.length ≤ 1000 → spRun s l = some t → t.Ok ∧ Grown s.E t.E ∧ Grown s.H t.H ∧ s.n ≤ t.n ∧ t.n ≤ s.n + 3 * l.length
  | [], s, t, h, _, he => by
    injection he with he
    subst he
    exact ⟨h, Grown.refl _, Grown.refl _, Nat.le_refl _, by simp⟩
  | x :: l, s, t, h, hn, he => by
    simp only [List.length_cons] at hn ⊢
    unfold spRun at he
    cases hs : spStep s x with
    | none => rw [hs] at he; cases he
    | some u =>
      rw [hs] at he
      obtain ⟨u1, u2, u3, u4, u5⟩ := step_ok h (by omega) hs
      obtain ⟨t1, t2, t3, t4, t5⟩ := run_ok l u1 (by omega) he
      exact ⟨t1, u2.trans t2, u3.trans t3, by omega, by omega⟩

theorem run_append (s : SpS) : ∀ (k m : List SplV), spRun s (k ++ m) = (spRun s k).bind fun t => spRun t m
  | [], m => rfl
  | x :: k, m => by
    show (spStep s x).bind (fun t => spRun t (k ++ m)) = ((spStep s x).bind fun t => spRun t k).bind fun t => spRun t m
    cases spStep s x with
    | none => rfl
    | some u => exact run_append u k m

/-- the places of the strands -/
def placesOf (s : SpS) : List (Int × Int) := (List.range s.n).map fun i => ((place s.E (s.E.getD i 0) : Int), (place s.H (s.H.getD i 0) : Int))
theorem placesOf_len (s : SpS) : (placesOf s).length = s.n := by simp [placesOf]
theorem placesOf_at (s : SpS) (i : Nat) (hi : i < s.n) : (placesOf s).getD i (0, 0) = ((place s.E (s.E.getD i 0) : Int), (place s.H (s.H.getD i 0) : Int)) := by
  simp [placesOf, List.getD_eq_getElem?_getD, hi]
theorem place_lt_iff {l : List Int} (i j : Nat) (hi : i < l.length) (hj : j < l.length) : place l (l.getD i 0) < place l (l.getD j 0) ↔ l.getD i 0 < l.getD j 0 := place_iff (getD_mem hi) (getD_mem hj)
theorem place_ne {l : List Int} (h : Rt l) (i j : Nat) (hi : i < l.length) (hj : j < l.length) (hij : i ≠ j) : place l (l.getD i 0) ≠ place l (l.getD j 0) := fun e => by
  have h1 := place_lt_iff i j hi hj
  have h2 := place_lt_iff j i hj hi
  have h3 : l.getD i 0 = l.getD j 0 := by omega
  exact hij (nodup_getD h.2.2.2 hi hj h3)

def aheadP (os : List (Int × Int)) (x y : Nat) : Bool := decide ((os.getD x (0, 0)).1 < (os.getD y (0, 0)).1) && decide ((os.getD x (0, 0)).2 < (os.getD y (0, 0)).2)
def parP (os : List (Int × Int)) (x y : Nat) : Bool := decide (x ≠ y) && !aheadP os x y && !aheadP os y x

/-- ahead, by labels -/
theorem ahead_label {s : SpS} (h : s.Ok) (x y : Nat) (hx : x < s.n) (hy : y < s.n) : aheadP (placesOf s) x y = (decide (s.E.getD x 0 < s.E.getD y 0) && decide (s.H.getD x 0 < s.H.getD y 0)) := by
  unfold aheadP
  rw [placesOf_at s x hx, placesOf_at s y hy]
  have h1 := place_lt_iff (l := s.E) x y (by rw [h.le]; exact hx) (by rw [h.le]; exact hy)
  have h2 := place_lt_iff (l := s.H) x y (by rw [h.lh]; exact hx) (by rw [h.lh]; exact hy)
  have e1 : decide ((place s.E (s.E.getD x 0) : Int) < (place s.E (s.E.getD y 0) : Int)) = decide (s.E.getD x 0 < s.E.getD y 0) := by rw [decide_eq_decide]; omega
  have e2 : decide ((place s.H (s.H.getD x 0) : Int) < (place s.H (s.H.getD y 0) : Int)) = decide (s.H.getD x 0 < s.H.getD y 0) := by rw [decide_eq_decide]; omega
  dsimp only
  rw [e1, e2]
/-- more splits turn nothing of what was asked -/
theorem ahead_grown {s t : SpS} (hs : s.Ok) (ht : t.Ok) (gE : Grown s.E t.E) (gH : Grown s.H t.H) (hn : s.n ≤ t.n) (x y : Nat) (hx : x < s.n) (hy : y < s.n) : aheadP (placesOf s) x y = aheadP (placesOf t) x y := by
  rw [ahead_label hs x y hx hy, ahead_label ht x y (by omega) (by omega)]
  have h1 := gE.old x y (by rw [hs.le]; exact hx) (by rw [hs.le]; exact hy)
  have h2 := gH.old x y (by rw [hs.lh]; exact hx) (by rw [hs.lh]; exact hy)
  congr 1
  · rw [decide_eq_decide]; exact h1.symm
  · rw [decide_eq_decide]; exact h2.symm
theorem par_grown {s t : SpS} (hs : s.Ok) (ht : t.Ok) (gE : Grown s.E t.E) (gH : Grown s.H t.H) (hn : s.n ≤ t.n) (x y : Nat) (hx : x < s.n) (hy : y < s.n) : parP (placesOf s) x y = parP (placesOf t) x y := by
  unfold parP
  rw [ahead_grown hs ht gE gH hn x y hx hy, ahead_grown hs ht gE gH hn y x hy hx]
/-- each place is one strand's -/
theorem places_ne {s : SpS} (h : s.Ok) (x y : Nat) (hx : x < s.n) (hy : y < s.n) (hxy : x ≠ y) : ((placesOf s).getD x (0, 0)).1 ≠ ((placesOf s).getD y (0, 0)).1 ∧ ((placesOf s).getD x (0, 0)).2 ≠ ((placesOf s).getD y (0, 0)).2 := by
  rw [placesOf_at s x hx, placesOf_at s y hy]
  have h1 := place_ne h.e x y (by rw [h.le]; exact hx) (by rw [h.le]; exact hy) hxy
  have h2 := place_ne h.h x y (by rw [h.lh]; exact hx) (by rw [h.lh]; exact hy) hxy
  exact ⟨fun e => h1 (by have e : ((place s.E (s.E.getD x 0) : Nat) : Int) = (place s.E (s.E.getD y 0) : Nat) := e; omega), fun e => h2 (by have e : ((place s.H (s.H.getD x 0) : Nat) : Int) = (place s.H (s.H.getD y 0) : Nat) := e; omega)⟩
theorem places_in {s : SpS} (h : s.Ok) (x : Nat) (hx : x < s.n) : (0 ≤ ((placesOf s).getD x (0, 0)).1 ∧ ((placesOf s).getD x (0, 0)).1 < s.n) ∧ (0 ≤ ((placesOf s).getD x (0, 0)).2 ∧ ((placesOf s).getD x (0, 0)).2 < s.n) := by
  rw [placesOf_at s x hx]
  have h1 := place_top (getD_mem (l := s.E) (i := x) (by rw [h.le]; exact hx))
  have h2 := place_top (getD_mem (l := s.H) (i := x) (by rw [h.lh]; exact hx))
  rw [h.le] at h1
  rw [h.lh] at h2
  dsimp only
  omega
/-- two that are unlike are one ahead of the other, or parallel, never two of these -/
theorem one_of {s : SpS} (h : s.Ok) (x y : Nat) (hx : x < s.n) (hy : y < s.n) (hxy : x ≠ y) :
    (aheadP (placesOf s) x y = true ∧ aheadP (placesOf s) y x = false ∧ parP (placesOf s) x y = false) ∨ (aheadP (placesOf s) x y = false ∧ aheadP (placesOf s) y x = true ∧ parP (placesOf s) x y = false) ∨ (aheadP (placesOf s) x y = false ∧ aheadP (placesOf s) y x = false ∧ parP (placesOf s) x y = true) := by
  have hp : parP (placesOf s) x y = (!aheadP (placesOf s) x y && !aheadP (placesOf s) y x) := by unfold parP; rw [decide_eq_true hxy]; simp
  rw [hp]
  have hno : ¬ (aheadP (placesOf s) x y = true ∧ aheadP (placesOf s) y x = true) := by
    rw [ahead_label h x y hx hy, ahead_label h y x hy hx]
    simp only [Bool.and_eq_true, decide_eq_true_eq]
    omega
  cases h1 : aheadP (placesOf s) x y <;> cases h2 : aheadP (placesOf s) y x <;> simp_all
theorem ahead_trans {s : SpS} (h : s.Ok) (x y z : Nat) (hx : x < s.n) (hy : y < s.n) (hz : z < s.n) (h1 : aheadP (placesOf s) x y = true) (h2 : aheadP (placesOf s) y z = true) : aheadP (placesOf s) x z = true := by
  rw [ahead_label h x y hx hy] at h1
  rw [ahead_label h y z hy hz] at h2
  rw [ahead_label h x z hx hz]
  simp only [Bool.and_eq_true, decide_eq_true_eq] at h1 h2 ⊢
  omega
theorem ahead_self {s : SpS} (h : s.Ok) (x : Nat) (hx : x < s.n) : aheadP (placesOf s) x x = false := by
  rw [ahead_label h x x hx hx]; simp
theorem par_self (os : List (Int × Int)) (x : Nat) : parP os x x = false := by unfold parP; simp
theorem par_comm (os : List (Int × Int)) (x y : Nat) : parP os x y = parP os y x := by
  unfold parP
  have : decide (x ≠ y) = decide (y ≠ x) := by rw [decide_eq_decide]; exact ne_comm
  rw [this]
  cases aheadP os x y <;> cases aheadP os y x <;> simp
end Go.Proofs.Ytjpimaiogdckpaa
