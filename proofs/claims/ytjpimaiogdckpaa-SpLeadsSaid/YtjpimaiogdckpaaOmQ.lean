/-
  OM, of no program: an element more.
-/
import Derived.Test.YtjpimaiogdckpaaOmP
namespace Go.Proofs.Ytjpimaiogdckpaa
open Go

/-- is there no room behind a, b being the label above? -/
def tight (a b : Int) : Prop := b = a + 1 ∨ 1099511627776 < b
instance (a b : Int) : Decidable (tight a b) := by unfold tight; infer_instance
def halfway (a b : Int) : Int := a + (b - a) / 2
/-- the labels with one more, behind element x -/
def behL (l : List Int) (x : Nat) : List Int :=
  if tight (l.getD x 0) (abL l (l.getD x 0)) then newL l ++ [halfway ((newL l).getD x 0) (abL (newL l) ((newL l).getD x 0))] else l ++ [halfway (l.getD x 0) (abL l (l.getD x 0))]

theorem abL_le {l : List Int} (hr : ∀ y ∈ l, 0 ≤ y ∧ y ≤ 1099511627776) {a : Int} (ha : 0 ≤ a ∧ a ≤ 1099511627776) : a < abL l a ∧ abL l a ≤ 1099513724928 := by
  have h := abv_ok l a
  unfold abL
  cases ho : abv l a with
  | none => simp only [Option.getD_none]; omega
  | some b =>
    rw [ho] at h
    obtain ⟨h1, h2, _⟩ := h
    have := hr b h1
    simp only [Option.getD_some]
    omega

/-- room: what stands behind a, at c -/
structure Room (l : List Int) (a c : Int) : Prop where
  lo : a < c
  up : ∀ y ∈ l, a < y → c < y
  top : c ≤ 1099511627776
theorem room_of {l : List Int} {a : Int} (h : ¬ tight a (abL l a)) (ha : a < abL l a) : Room l a (halfway a (abL l a)) := by
  unfold tight at h
  have hok := abv_ok l a
  obtain ⟨b, hb⟩ : ∃ b, abL l a = b := ⟨_, rfl⟩
  rw [hb] at h ha ⊢
  unfold halfway
  refine ⟨by omega, fun y hy hay => ?_, by omega⟩
  unfold abL at hb
  cases ho : abv l a with
  | none => rw [ho] at hok; have := hok y hy; omega
  | some z =>
    rw [ho] at hok hb
    simp only [Option.getD_some] at hb
    have := hok.2.2 y hy hay
    omega
theorem newL_room {l : List Int} (h : Rt l) (x : Nat) (hx : x < l.length) : ¬ tight ((newL l).getD x 0) (abL (newL l) ((newL l).getD x 0)) := by
  have hok := abv_ok (newL l) ((newL l).getD x 0)
  have h1 := newL_at l x hx
  have h2 := place_top (getD_mem hx)
  have h3 := h.2.1
  unfold tight abL
  cases ho : abv (newL l) ((newL l).getD x 0) with
  | none => simp only [Option.getD_none]; omega
  | some b =>
    rw [ho] at hok
    obtain ⟨k1, k2, k3⟩ := hok
    obtain ⟨i, hi, rfl⟩ := mem_getD k1
    rw [newL_len] at hi
    rw [newL_at l i hi] at k2 ⊢
    have h4 := place_top (getD_mem hi)
    simp only [Option.getD_some]
    omega

/-- what the new labels are to the old ones -/
structure Beh (l : List Int) (x : Nat) (L : List Int) : Prop where
  ex : ∃ m c, L = m ++ [c] ∧ m.length = l.length ∧ Rt m ∧ (∀ i j, i < l.length → j < l.length → (m.getD i 0 < m.getD j 0 ↔ l.getD i 0 < l.getD j 0)) ∧ Room m (m.getD x 0) c
theorem beh_ok {l : List Int} (h : Rt l) (x : Nat) (hx : x < l.length) : Beh l x (behL l x) := by
  unfold behL
  by_cases ht : tight (l.getD x 0) (abL l (l.getD x 0))
  · rw [if_pos ht]
    have hn := newL_rt h
    have hxn : x < (newL l).length := by rw [newL_len]; exact hx
    exact ⟨_, _, rfl, newL_len l, hn, fun i j hi hj => newL_iff l i j hi hj, room_of (newL_room h x hx) (abL_le hn.2.2.1 (hn.2.2.1 _ (getD_mem hxn))).1⟩
  · rw [if_neg ht]
    exact ⟨_, _, rfl, rfl, h, fun _ _ _ _ => Iff.rfl, room_of ht (abL_le h.2.2.1 (h.2.2.1 _ (getD_mem hx))).1⟩

theorem getD_snoc (m : List Int) (c : Int) (i : Nat) (hi : i < m.length) : (m ++ [c]).getD i 0 = m.getD i 0 := by
  rw [List.getD_eq_getElem?_getD, List.getElem?_append_left hi, ← List.getD_eq_getElem?_getD]
theorem getD_end (m : List Int) (c : Int) : (m ++ [c]).getD m.length 0 = c := by
  rw [List.getD_eq_getElem?_getD, List.getElem?_append_right (Nat.le_refl _)]; simp

/-- all of it, on the new labels -/
structure Behind (l : List Int) (x : Nat) (L : List Int) : Prop where
  len : L.length = l.length + 1
  old : ∀ i j, i < l.length → j < l.length → (L.getD i 0 < L.getD j 0 ↔ l.getD i 0 < l.getD j 0)
  lo : ∀ i, i < l.length → (L.getD i 0 < L.getD l.length 0 ↔ l.getD i 0 ≤ l.getD x 0)
  up : ∀ i, i < l.length → (L.getD l.length 0 < L.getD i 0 ↔ l.getD x 0 < l.getD i 0)
  right : l.length < 1000 → Rt L
theorem behind_of {l : List Int} (h : Rt l) {x : Nat} (hx : x < l.length) {L : List Int} (hB : Beh l x L) : Behind l x L := by
  obtain ⟨m, c, rfl, hm, hr, hiff, hroom⟩ := hB.ex
  have hxm : x < m.length := by omega
  have key : ∀ i, i < l.length → (m.getD i 0 < c ↔ l.getD i 0 ≤ l.getD x 0) ∧ (c < m.getD i 0 ↔ l.getD x 0 < l.getD i 0) := fun i hi => by
    have h1 := hiff x i hx hi
    have h2 := hroom.lo
    by_cases h3 : l.getD x 0 < l.getD i 0
    · have h4 := hroom.up _ (getD_mem (by omega)) (h1.2 h3)
      exact ⟨⟨fun _ => by omega, fun _ => by omega⟩, ⟨fun _ => h3, fun _ => h4⟩⟩
    · have h4 : ¬ m.getD x 0 < m.getD i 0 := fun h => h3 (h1.1 h)
      exact ⟨⟨fun _ => by omega, fun _ => by omega⟩, ⟨fun _ => by omega, fun h => absurd h h3⟩⟩
  refine ⟨by simp [hm], fun i j hi hj => ?_, fun i hi => ?_, fun i hi => ?_, fun hlt => ?_⟩
  · rw [getD_snoc m c i (by omega), getD_snoc m c j (by omega)]; exact hiff i j hi hj
  · rw [getD_snoc m c i (by omega), ← hm, getD_end]; exact (key i hi).1
  · rw [getD_snoc m c i (by omega), ← hm, getD_end]; exact (key i hi).2
  · refine ⟨by simp, by simp; omega, fun y hy => ?_, ?_⟩
    · rcases List.mem_append.1 hy with hy | hy
      · exact hr.2.2.1 y hy
      · simp at hy
        subst hy
        have := (hr.2.2.1 _ (getD_mem hxm)).1
        exact ⟨by have := hroom.lo; omega, hroom.top⟩
    · refine List.nodup_append.2 ⟨hr.2.2.2, by simp, fun y hy z hz => ?_⟩
      simp at hz
      subst hz
      obtain ⟨i, hi, rfl⟩ := mem_getD hy
      have := key i (by omega)
      omega
theorem behind_ok {l : List Int} (h : Rt l) (x : Nat) (hx : x < l.length) : Behind l x (behL l x) := behind_of h hx (beh_ok h x hx)

/-- a row with a number more behind x -/
def ins (r : List Nat) (x n : Nat) : List Nat := r.flatMap fun k => if k = x then [k, n] else [k]
theorem ins_app (r s : List Nat) (x n : Nat) : ins (r ++ s) x n = ins r x n ++ ins s x n := by simp [ins]
theorem ins_not (r : List Nat) (x n : Nat) (h : x ∉ r) : ins r x n = r := by
  induction r with
  | nil => rfl
  | cons k t ih =>
    have h1 : k ≠ x := fun e => h (by simp [e])
    have h2 : x ∉ t := fun e => h (by simp [e])
    have := ih h2
    unfold ins at this ⊢
    rw [List.flatMap_cons, if_neg h1, this]; rfl
theorem ins_rw {l : List Int} (h : Rt l) {x : Nat} (hx : x < l.length) {L : List Int} (hB : Behind l x L) {r : List Nat} (hr : IsRw l r) : IsRw L (ins r x l.length) := by
  have hxr : x ∈ r := hr.perm.mem_iff.2 (by simpa using hx)
  obtain ⟨r1, r2, rfl⟩ := List.append_of_mem hxr
  have hnd := hr.nodup
  have h1 : x ∉ r1 := fun e => by
    have := (List.nodup_append.1 hnd).2.2 x e x (by simp)
    exact this rfl
  have h2 : x ∉ r2 := (List.nodup_cons.1 (List.nodup_append.1 hnd).2.1).1
  have he : ins (r1 ++ x :: r2) x l.length = r1 ++ x :: l.length :: r2 := by
    rw [ins_app, ins_not r1 x _ h1, show x :: r2 = [x] ++ r2 from rfl, ins_app, ins_not r2 x _ h2]
    simp [ins]
  have hlt : ∀ i, i ∈ r1 ++ x :: r2 → i < l.length := fun i hi => by
    have := hr.perm.mem_iff.1 hi
    simpa using this
  rw [he]
  constructor
  · rw [hB.len, List.range_succ]
    refine List.Perm.trans ?_ (hr.perm.append_right [l.length])
    rw [List.append_assoc]
    refine List.Perm.append_left r1 ?_
    show (x :: l.length :: r2).Perm (x :: (r2 ++ [l.length]))
    exact List.Perm.cons x (List.perm_append_singleton l.length r2).symm
  · have ha := hr.asc
    obtain ⟨a1, a2, a3⟩ := List.pairwise_append.1 ha
    obtain ⟨a4, a5⟩ := List.pairwise_cons.1 a2
    have up : ∀ i j, i < l.length → j < l.length → l.getD i 0 < l.getD j 0 → L.getD i 0 < L.getD j 0 := fun i j hi hj hij => (hB.old i j hi hj).2 hij
    refine List.pairwise_append.2 ⟨?_, List.pairwise_cons.2 ⟨?_, List.pairwise_cons.2 ⟨?_, ?_⟩⟩, ?_⟩
    · exact a1.imp_of_mem fun {i j} hi hj hij => up i j (hlt i (by simp [hi])) (hlt j (by simp [hj])) hij
    · intro j hj
      rcases List.mem_cons.1 hj with rfl | hj
      · exact (hB.lo x hx).2 (Int.le_refl _)
      · exact up x j hx (hlt j (by simp [hj])) (a4 j hj)
    · intro j hj
      exact (hB.up j (hlt j (by simp [hj]))).2 (a4 j hj)
    · exact a5.imp_of_mem fun {i j} hi hj hij => up i j (hlt i (by simp [hi])) (hlt j (by simp [hj])) hij
    · intro i hi j hj
      have hil := hlt i (by simp [hi])
      rcases List.mem_cons.1 hj with rfl | hj
      · exact up i j hil hx (a3 i hi j (by simp))
      rcases List.mem_cons.1 hj with rfl | hj
      · exact (hB.lo i hil).2 (Int.le_of_lt (a3 i hi x (by simp)))
      · exact up i j hil (hlt j (by simp [hj])) (a3 i hi j (by simp [hj]))
end Go.Proofs.Ytjpimaiogdckpaa
