/-
  SP, of no program: the English list is the serial order.
-/
import Derived.Test.YtjpimaiogdckpaaSpP
namespace Go.Proofs.Ytjpimaiogdckpaa
open Go

def ltL (l : List Int) (i j : Nat) : Prop := l.getD i 0 < l.getD j 0
/-- strands and joins of the tasks that are there, the last one's first -/
def flatS (st : List (Nat × Nat)) : List Nat := st.flatMap fun t => if t.2 = 0 then [t.1] else [t.1, t.2]
theorem flat_cons (a j : Nat) (r : List (Nat × Nat)) : flatS ((a, j) :: r) = a :: ((if j = 0 then [] else [j]) ++ flatS r) := by
  unfold flatS; rw [List.flatMap_cons]; dsimp only; by_cases h : j = 0 <;> simp [h]

/-- a new element just behind x, in a row that rises -/
theorem put_asc {l L : List Int} {x : Nat} (hB : Behind l x L) {A R : List Nat} (hlt : ∀ i ∈ A ++ x :: R, i < l.length) (h : (A ++ x :: R).Pairwise (ltL l)) : (A ++ x :: l.length :: R).Pairwise (ltL L) := by
  have hx := hlt x (by simp)
  have up : ∀ i j, i < l.length → j < l.length → ltL l i j → ltL L i j := fun i j hi hj hij => (hB.old i j hi hj).2 hij
  obtain ⟨a1, a2, a3⟩ := List.pairwise_append.1 h
  obtain ⟨a4, a5⟩ := List.pairwise_cons.1 a2
  refine List.pairwise_append.2 ⟨?_, List.pairwise_cons.2 ⟨?_, List.pairwise_cons.2 ⟨?_, ?_⟩⟩, ?_⟩
  · exact a1.imp_of_mem fun {i j} hi hj hij => up i j (hlt i (by simp [hi])) (hlt j (by simp [hj])) hij
  · intro j hj
    rcases List.mem_cons.1 hj with rfl | hj
    · exact (hB.lo x hx).2 (Int.le_refl _)
    · exact up x j hx (hlt j (by simp [hj])) (a4 j hj)
  · intro j hj
    exact (hB.up j (hlt j (by simp [hj]))).2 (a4 j hj)
  · exact a5.imp_of_mem fun {i j} hi hj hij => up i j (hlt i (by simp [hi])) (hlt j (by simp [hj])) hij
  · intro i hi j hj
    have hil := hlt i (by simp [hi])
    rcases List.mem_cons.1 hj with rfl | hj
    · exact up i j hil hx (a3 i hi j (by simp))
    rcases List.mem_cons.1 hj with rfl | hj
    · exact (hB.lo i hil).2 (Int.le_of_lt (a3 i hi x (by simp)))
    · exact up i j hil (hlt j (by simp [hj])) (a3 i hi j (by simp [hj]))

/-- how far the serial order has come: at, the strand that began last -/
structure Ser (s : SpS) (at_ : Nat) : Prop where
  lt : at_ < s.n
  asc : (flatS s.st).Pairwise (ltL s.E)
  le : ∀ a j r, s.st = (a, j) :: r → s.E.getD at_ 0 ≤ s.E.getD a 0
theorem ser_zero : Ser SpS.zero 0 := ⟨by decide, by simp [SpS.zero, flatS], fun a j r h => by
  simp only [SpS.zero, List.cons.injEq, Prod.mk.injEq] at h
  obtain ⟨⟨rfl, rfl⟩, rfl⟩ := h
  exact Int.le_refl _⟩

theorem fork_asc {E : List Int} (h : Rt E) {a n : Nat} (hl : E.length = n) (ha : a < n) (hn : n + 3 ≤ 1000) {R : List Nat} (hlt : ∀ i ∈ a :: R, i < n) (has : (a :: R).Pairwise (ltL E)) (new : Bool) :
    ((n :: (n + 1) :: ((if new then [n + 2] else []) ++ R)).Pairwise (ltL (forkE E a n new))) ∧ ∀ i, i < n → E.getD i 0 ≤ E.getD a 0 → (forkE E a n new).getD i 0 < (forkE E a n new).getD n 0 := by
  have b1 := behind_ok h a (by omega)
  obtain ⟨r1, l1, g1⟩ := beh_all h (x := a) (by omega) (by omega)
  have b2 := behind_ok r1 n (by omega)
  obtain ⟨r2, l2, g2⟩ := beh_all r1 (x := n) (by omega) (by omega)
  have b3 := behind_ok r2 (n + 1) (by omega)
  obtain ⟨r3, l3, g3⟩ := beh_all r2 (x := n + 1) (by omega) (by omega)
  have p1 := put_asc (A := []) b1 (R := R) (fun i hi => by rw [hl]; exact hlt i (by simpa using hi)) (by simpa using has)
  rw [hl] at p1
  have p1' : (n :: R).Pairwise (ltL (behL E a)) := (List.pairwise_cons.1 (by simpa using p1)).2
  have hltn : ∀ i ∈ n :: R, i < (behL E a).length := fun i hi => by
    rw [l1, hl]
    rcases List.mem_cons.1 hi with rfl | hi
    · omega
    · have := hlt i (by simp [hi]); omega
  have p2 := put_asc (A := []) b2 (R := R) (by simpa using hltn) (by simpa using p1')
  rw [l1, hl] at p2
  have q1 : ∀ i, i < n → E.getD i 0 ≤ E.getD a 0 → (behL E a).getD i 0 < (behL E a).getD n 0 := fun i hi hle => by
    have := (b1.lo i (by omega)).2 hle
    rwa [hl] at this
  have q2 : ∀ i, i < n → E.getD i 0 ≤ E.getD a 0 → (behL (behL E a) n).getD i 0 < (behL (behL E a) n).getD n 0 := fun i hi hle => (b2.old i n (by omega) (by omega)).2 (q1 i hi hle)
  cases new with
  | false => exact ⟨by simpa [forkE] using p2, fun i hi hle => by simpa [forkE] using q2 i hi hle⟩
  | true =>
    have p2' : ([n] ++ (n + 1) :: R).Pairwise (ltL (behL (behL E a) n)) := by simpa using p2
    have p3 := put_asc (A := [n]) b3 (R := R) (fun i hi => by
      rw [l2, l1, hl]
      simp only [List.cons_append, List.nil_append, List.mem_cons] at hi
      rcases hi with rfl | rfl | hi
      · omega
      · omega
      · have := hlt i (by simp [hi]); omega) p2'
    rw [l2, l1, hl] at p3
    exact ⟨by simpa [forkE] using p3, fun i hi hle => by
      have := (b3.old i n (by omega) (by omega)).2 (q2 i hi hle)
      simpa [forkE] using this⟩

/-- the strand that begins with a split, if one does -/
def nextOf (x : SplV) : Int := if x.kind = 1 then x.b else x.d

theorem ser_step {s t : SpS} {x : SplV} (h : s.Ok) (hn : s.n + 3 ≤ 1000) {at_ : Nat} (hs : Ser s at_) (he : spStep s x = some t) :
    (x.kind = 2 → Ser t at_) ∧ (x.kind ≠ 2 → ∃ b : Nat, nextOf x = b ∧ Ser t b ∧ t.E.getD at_ 0 < t.E.getD b 0) := by
  unfold spStep at he
  obtain ⟨n, st, E, H⟩ := s
  have h5 := h.st
  have hle := hs.le
  have hat := hs.lt
  have has := hs.asc
  dsimp only at he h5 hn hle hat has ⊢
  match st, he, h5, hle, has with
  | [], he, _, _, _ => cases he
  | (a, j) :: r, he, h5, hle, has =>
    dsimp only at he
    have ha := (h5 (a, j) (by simp)).1
    have hj := (h5 (a, j) (by simp)).2
    dsimp only at ha hj
    have hla := hle a j r rfl
    rw [flat_cons] at has
    have hflt : ∀ i ∈ a :: ((if j = 0 then [] else [j]) ++ flatS r), i < n := by
      intro i hi
      rcases List.mem_cons.1 hi with rfl | hi
      · exact ha
      rcases List.mem_append.1 hi with hi | hi
      · by_cases hj0 : j = 0
        · simp [hj0] at hi
        · simp [hj0] at hi; omega
      · unfold flatS at hi
        obtain ⟨u, hu, hui⟩ := List.mem_flatMap.1 hi
        have := h5 u (by simp [hu])
        split at hui
        · simp at hui; omega
        · simp at hui; rcases hui with rfl | rfl <;> omega
    by_cases c0 : x.a ≠ a
    · rw [if_pos c0] at he; cases he
    rw [if_neg c0] at he
    by_cases c1 : x.kind = 1
    · rw [if_pos c1] at he
      refine ⟨fun h2 => by omega, fun _ => ?_⟩
      by_cases c2 : x = ⟨1, a, n, (n + 1 : Nat), ((if j = 0 then n + 2 else j : Nat) : Int)⟩
      · rw [if_pos c2] at he
        injection he with he
        subst he
        refine ⟨n, by rw [c2]; rfl, ?_⟩
        by_cases c3 : j = 0
        · rw [if_pos c3]
          rw [if_pos c3, List.nil_append] at has hflt
          obtain ⟨f1, f2⟩ := fork_asc h.e h.le ha hn hflt has true
          refine ⟨⟨by show n < n + 3; omega, ?_, fun a' j' r' e => ?_⟩, f2 at_ hat hla⟩
          · show (flatS ((n, 0) :: (n + 1, n + 2) :: r)).Pairwise _
            rw [flat_cons, flat_cons]
            simpa using f1
          · injection e with e _
            injection e with e _
            rw [← e]; exact Int.le_refl _
        · rw [if_neg c3]
          rw [if_neg c3] at has hflt
          obtain ⟨f1, f2⟩ := fork_asc h.e h.le ha hn hflt has false
          refine ⟨⟨by show n < n + 2; omega, ?_, fun a' j' r' e => ?_⟩, f2 at_ hat hla⟩
          · show (flatS ((n, 0) :: (n + 1, j) :: r)).Pairwise _
            rw [flat_cons, flat_cons, if_neg c3]
            simpa using f1
          · injection e with e _
            injection e with e _
            rw [← e]; exact Int.le_refl _
      · rw [if_neg c2] at he; cases he
    rw [if_neg c1] at he
    by_cases c2 : x.kind = 2
    · rw [if_pos c2] at he
      refine ⟨fun _ => ?_, fun h2 => absurd c2 h2⟩
      match r, he, has with
      | [], he, _ => cases he
      | (a1, j1) :: r1, he, has =>
        dsimp only at he
        split at he
        · injection he with he
          subst he
          obtain ⟨k1, k2⟩ := List.pairwise_cons.1 has
          refine ⟨hat, (List.pairwise_append.1 k2).2.1, fun a' j' r' e => ?_⟩
          injection e with e _
          injection e with e _
          rw [← e]
          have : ltL E a a1 := k1 a1 (List.mem_append_right _ (by rw [flat_cons]; simp))
          exact Int.le_trans hla (Int.le_of_lt this)
        · cases he
    rw [if_neg c2] at he
    by_cases c3 : x.kind = 3
    · rw [if_pos c3] at he
      refine ⟨fun h2 => absurd h2 c2, fun _ => ?_⟩
      split at he
      · rename_i c4
        injection he with he
        subst he
        obtain ⟨c5, c6⟩ := c4
        rw [if_neg c5] at has
        obtain ⟨k1, k2⟩ := List.pairwise_cons.1 has
        have haj : ltL E a j := k1 j (by simp)
        refine ⟨j, by rw [c6]; rfl, ⟨hj, ?_, fun a' j' r' e => ?_⟩, ?_⟩
        · show (flatS ((j, 0) :: r)).Pairwise _
          rw [flat_cons]
          simpa using k2
        · injection e with e _
          injection e with e _
          rw [← e]; exact Int.le_refl _
        · exact Int.lt_of_le_of_lt hla haj
      · cases he
    rw [if_neg c3] at he
    cases he
end Go.Proofs.Ytjpimaiogdckpaa
