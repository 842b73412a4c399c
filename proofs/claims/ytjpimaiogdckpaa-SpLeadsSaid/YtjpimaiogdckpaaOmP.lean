/-
  OM, of no program: right labels; the label above; rows; new labels.
-/
import Derived.Lib.SlicesCompact
import Derived.Sort.Statements
namespace Go.Proofs.Ytjpimaiogdckpaa
open Go

/-- labels that are right -/
def Rt (l : List Int) : Prop := 1 ≤ l.length ∧ l.length ≤ 1000 ∧ (∀ x ∈ l, 0 ≤ x ∧ x ≤ 1099511627776) ∧ l.Nodup
instance (l : List Int) : Decidable (Rt l) := by unfold Rt; infer_instance

def srt (l : List Int) : List Int := l.mergeSort fun x y => decide (x ≤ y)
theorem srt_perm (l : List Int) : (srt l).Perm l := List.mergeSort_perm l _
theorem srt_len (l : List Int) : (srt l).length = l.length := (srt_perm l).length_eq
theorem srt_sorted (l : List Int) : (srt l).Pairwise (· ≤ ·) := by
  have h := List.pairwise_mergeSort (le := fun (x y : Int) => decide (x ≤ y)) (fun a b c h1 h2 => by simp at *; omega) (fun a b => by simp; omega) l
  exact h.imp (fun {a b} h => by simpa using h)
theorem asc_at {s : List Int} (h : s.Pairwise (· ≤ ·)) (i j : Nat) (hij : i ≤ j) (hj : j < s.length) : s[i]'(by omega) ≤ s[j] := by
  rcases Nat.lt_or_eq_of_le hij with h1 | rfl
  · exact List.pairwise_iff_getElem.1 h i j _ hj h1
  · exact Int.le_refl _
theorem srt_low {l : List Int} (h : 0 < (srt l).length) (z : Int) : z ≤ (srt l)[0] ↔ ∀ x ∈ l, z ≤ x := by
  constructor
  · intro hz x hx
    obtain ⟨i, hi, rfl⟩ := List.getElem_of_mem ((srt_perm l).mem_iff.2 hx)
    exact Int.le_trans hz (asc_at (srt_sorted l) 0 i (Nat.zero_le _) hi)
  · intro hz
    exact hz _ ((srt_perm l).mem_iff.1 (List.getElem_mem h))
theorem srt_high {l : List Int} (k : Nat) (hk : k + 1 = (srt l).length) (z : Int) : (srt l)[k]'(by omega) ≤ z ↔ ∀ x ∈ l, x ≤ z := by
  constructor
  · intro hz x hx
    obtain ⟨i, hi, rfl⟩ := List.getElem_of_mem ((srt_perm l).mem_iff.2 hx)
    exact Int.le_trans (asc_at (srt_sorted l) i k (by omega) (by omega)) hz
  · intro hz
    exact hz _ ((srt_perm l).mem_iff.1 (List.getElem_mem _))
theorem compact_nodup (s : List Int) (h : s.Pairwise (· ≤ ·)) : (Lib.compact s).length = s.length ↔ s.Nodup := by
  have h1 : (Lib.compact s).length = ((List.range s.length).filter (Lib.keeps s.toArray)).length := by simp [Lib.compact, Lib.compactUpTo]
  rw [h1]
  have h2 : ((List.range s.length).filter (Lib.keeps s.toArray)).length = s.length ↔ ∀ j ∈ List.range s.length, Lib.keeps s.toArray j = true := by
    have := @List.length_filter_eq_length_iff _ (Lib.keeps s.toArray) (List.range s.length)
    rwa [List.length_range] at this
  rw [h2]
  constructor
  · intro hk
    refine List.pairwise_iff_getElem.2 fun i j hi hj hij => ?_
    have := hk j (by simpa using hj)
    unfold Lib.keeps at this
    simp only [decide_eq_true_eq] at this
    rcases this with h0 | hne
    · omega
    · have e1 : s.toArray[j]! = s[j] := by simp [hj]
      have e2 : s.toArray[j - 1]! = s[j - 1] := by simp [show j - 1 < s.length by omega]
      rw [e1, e2] at hne
      have a1 := asc_at h i (j - 1) (by omega) (by omega)
      have a2 := asc_at h (j - 1) j (by omega) hj
      omega
  · intro hn j hj
    have hj : j < s.length := by simpa using hj
    unfold Lib.keeps
    simp only [decide_eq_true_eq]
    by_cases h0 : j = 0
    · exact .inl h0
    · refine .inr ?_
      have e1 : s.toArray[j]! = s[j] := by simp [hj]
      have e2 : s.toArray[j - 1]! = s[j - 1] := by simp [show j - 1 < s.length by omega]
      rw [e1, e2]
      exact (List.pairwise_iff_getElem.1 hn (j - 1) j (by omega) hj (by omega)).symm
/-- what om.Right asks, as it asks it -/
theorem right_iff {l : List Int} (k : Nat) (hk : k + 1 = (srt l).length) (h1000 : l.length ≤ 1000) : Rt l ↔ (0 ≤ (srt l)[0]'(by omega) ∧ (srt l)[k]'(by omega) ≤ 1099511627776 ∧ (Lib.compact (srt l)).length = l.length) := by
  have hl := srt_len l
  have hc := compact_nodup (srt l) (srt_sorted l)
  rw [srt_low (by omega), srt_high k hk, ← hl, hc, (srt_perm l).nodup_iff]
  unfold Rt
  constructor
  · rintro ⟨_, _, h, hn⟩; exact ⟨fun x hx => (h x hx).1, fun x hx => (h x hx).2, hn⟩
  · rintro ⟨a, b, c⟩; exact ⟨by omega, by omega, fun x hx => ⟨a x hx, b x hx⟩, c⟩

/-- the least label above a, so far -/
def abS (a : Int) (o : Option Int) (n : Int) : Option Int := if a < n then (match o with | none => some n | some m => if n < m then some n else some m) else o
def abv (l : List Int) (a : Int) : Option Int := l.foldl (abS a) none
def abL (l : List Int) (a : Int) : Int := (abv l a).getD (a + 2097152)
theorem abv_snoc (l : List Int) (a : Int) (k : Nat) (hk : k < l.length) : abv (l.take (k + 1)) a = abS a (abv (l.take k) a) l[k] := by
  unfold abv; rw [List.take_succ_eq_append_getElem hk, List.foldl_append]; rfl
def AbOk (a : Int) (l : List Int) : Option Int → Prop
  | none => ∀ x ∈ l, x ≤ a
  | some b => b ∈ l ∧ a < b ∧ ∀ x ∈ l, a < x → b ≤ x
theorem abS_ok (a : Int) (l : List Int) (o : Option Int) (n : Int) (h : AbOk a l o) : AbOk a (l ++ [n]) (abS a o n) := by
  unfold abS
  by_cases hn : a < n
  · rw [if_pos hn]
    cases o with
    | none =>
      refine ⟨by simp, hn, fun x hx hax => ?_⟩
      rcases List.mem_append.1 hx with hx | hx
      · have := h x hx; omega
      · simp at hx; omega
    | some m =>
      obtain ⟨h1, h2, h3⟩ := h
      dsimp only
      by_cases hm : n < m
      · rw [if_pos hm]
        refine ⟨by simp, hn, fun x hx hax => ?_⟩
        rcases List.mem_append.1 hx with hx | hx
        · have := h3 x hx hax; omega
        · simp at hx; omega
      · rw [if_neg hm]
        refine ⟨List.mem_append_left _ h1, h2, fun x hx hax => ?_⟩
        rcases List.mem_append.1 hx with hx | hx
        · exact h3 x hx hax
        · simp at hx; omega
  · rw [if_neg hn]
    cases o with
    | none =>
      intro x hx
      rcases List.mem_append.1 hx with hx | hx
      · exact h x hx
      · simp at hx; omega
    | some m =>
      obtain ⟨h1, h2, h3⟩ := h
      refine ⟨List.mem_append_left _ h1, h2, fun x hx hax => ?_⟩
      rcases List.mem_append.1 hx with hx | hx
      · exact h3 x hx hax
      · simp at hx; omega
theorem abv_ok (l : List Int) (a : Int) : AbOk a l (abv l a) := by
  have key : ∀ k, k ≤ l.length → AbOk a (l.take k) (abv (l.take k) a) := by
    intro k
    induction k with
    | zero => intro _; simp [abv, AbOk]
    | succ k ih =>
      intro hk
      rw [abv_snoc l a k (by omega), List.take_succ_eq_append_getElem (by omega)]
      exact abS_ok a _ _ _ (ih (by omega))
  have := key l.length (Nat.le_refl _)
  rwa [List.take_length] at this

/-- how many labels are less -/
def place (l : List Int) (x : Int) : Nat := l.countP fun y => decide (y < x)
theorem place_lt {l : List Int} {x y : Int} (hx : x ∈ l) (h : x < y) : place l x < place l y := by
  unfold place
  induction l with
  | nil => cases hx
  | cons z t ih =>
    have hm : t.countP (fun u => decide (u < x)) ≤ t.countP (fun u => decide (u < y)) := List.countP_mono_left fun u _ hu => by simp at *; omega
    rw [List.countP_cons, List.countP_cons]
    rcases List.mem_cons.1 hx with rfl | hx
    · simp [h]; omega
    · have := ih hx
      by_cases h1 : z < x
      · simp [h1, show z < y by omega]; omega
      · by_cases h2 : z < y <;> simp [h1, h2] <;> omega
theorem place_le (l : List Int) (x : Int) : place l x ≤ l.length := List.countP_le_length
theorem place_top {l : List Int} {x : Int} (hx : x ∈ l) : place l x < l.length := Nat.lt_of_lt_of_le (place_lt hx (show x < x + 1 by omega)) (place_le _ _)
theorem place_iff {l : List Int} {x y : Int} (hx : x ∈ l) (hy : y ∈ l) : place l x < place l y ↔ x < y := by
  refine ⟨fun h => ?_, place_lt hx⟩
  rcases Int.lt_trichotomy x y with h1 | rfl | h1
  · exact h1
  · omega
  · have := place_lt hy h1; omega

def newL (l : List Int) : List Int := l.map fun x => 1048576 * (place l x : Int)
theorem newL_len (l : List Int) : (newL l).length = l.length := by simp [newL]
theorem newL_at (l : List Int) (i : Nat) (hi : i < l.length) : (newL l).getD i 0 = 1048576 * (place l (l.getD i 0) : Int) := by
  simp [newL, List.getD_eq_getElem?_getD, hi]
theorem getD_mem {l : List Int} {i : Nat} (hi : i < l.length) : l.getD i 0 ∈ l := by
  rw [List.getD_eq_getElem?_getD, List.getElem?_eq_getElem hi]; exact List.getElem_mem hi
theorem newL_iff (l : List Int) (i j : Nat) (hi : i < l.length) (hj : j < l.length) : (newL l).getD i 0 < (newL l).getD j 0 ↔ l.getD i 0 < l.getD j 0 := by
  rw [newL_at l i hi, newL_at l j hj]
  have := place_iff (getD_mem hi) (getD_mem hj)
  omega
theorem nodup_getD {l : List Int} (h : l.Nodup) {i j : Nat} (hi : i < l.length) (hj : j < l.length) (he : l.getD i 0 = l.getD j 0) : i = j := by
  rw [List.getD_eq_getElem?_getD, List.getElem?_eq_getElem hi, List.getD_eq_getElem?_getD, List.getElem?_eq_getElem hj] at he
  rcases Nat.lt_trichotomy i j with h1 | h1 | h1
  · exact absurd he (List.pairwise_iff_getElem.1 h i j hi hj h1)
  · exact h1
  · exact absurd he.symm (List.pairwise_iff_getElem.1 h j i hj hi h1)
theorem nodup_of_getD {l : List Int} (h : ∀ i j, i < l.length → j < l.length → i < j → l.getD i 0 ≠ l.getD j 0) : l.Nodup :=
  List.pairwise_iff_getElem.2 fun i j hi hj hij e => h i j hi hj hij (by rw [List.getD_eq_getElem?_getD, List.getElem?_eq_getElem hi, List.getD_eq_getElem?_getD, List.getElem?_eq_getElem hj]; exact e)
theorem mem_getD {l : List Int} {x : Int} (h : x ∈ l) : ∃ i, i < l.length ∧ l.getD i 0 = x := by
  obtain ⟨i, hi, rfl⟩ := List.getElem_of_mem h
  exact ⟨i, hi, by rw [List.getD_eq_getElem?_getD, List.getElem?_eq_getElem hi]; rfl⟩
theorem newL_rt {l : List Int} (h : Rt l) : Rt (newL l) := by
  obtain ⟨h1, h2, h3, h4⟩ := h
  refine ⟨by rw [newL_len]; exact h1, by rw [newL_len]; exact h2, fun x hx => ?_, nodup_of_getD fun i j hi hj hij => ?_⟩
  · obtain ⟨i, hi, rfl⟩ := mem_getD hx
    rw [newL_len] at hi
    rw [newL_at l i hi]
    have := place_top (getD_mem hi)
    omega
  · rw [newL_len] at hi hj
    have h5 := newL_iff l i j hi hj
    have h6 := newL_iff l j i hj hi
    have h7 : l.getD i 0 ≠ l.getD j 0 := fun e => by have := nodup_getD h4 hi hj e; omega
    omega

/-- the row from the front on -/
structure IsRw (l : List Int) (r : List Nat) : Prop where
  perm : r.Perm (List.range l.length)
  asc : r.Pairwise fun i j => l.getD i 0 < l.getD j 0
theorem IsRw.len {l : List Int} {r : List Nat} (h : IsRw l r) : r.length = l.length := by rw [h.perm.length_eq, List.length_range]
theorem IsRw.lt {l : List Int} {r : List Nat} (h : IsRw l r) (k : Nat) (hk : k < r.length) : r[k] < l.length := by
  have := h.perm.mem_iff.1 (List.getElem_mem hk)
  simpa using this
theorem range_getD (l : List Int) : (List.range l.length).map (l.getD · 0) = l := by
  apply List.ext_getElem
  · simp
  · intro i h1 h2; simp [List.getD_eq_getElem?_getD, h2]
theorem asc_count {m : List Int} (h : m.Pairwise (· < ·)) (k : Nat) (hk : k < m.length) : m.countP (fun y => decide (y < m[k])) = k := by
  have e : m = m.take k ++ m.drop k := (List.take_append_drop k m).symm
  have h1 : (m.take k).countP (fun y => decide (y < m[k])) = (m.take k).length := List.countP_eq_length.2 fun y hy => by
    obtain ⟨i, hi, rfl⟩ := List.getElem_of_mem hy
    rw [List.length_take] at hi
    have := List.pairwise_iff_getElem.1 h i k (by omega) hk (by omega)
    simpa using this
  have h2 : (m.drop k).countP (fun y => decide (y < m[k])) = 0 := List.countP_eq_zero.2 fun y hy => by
    obtain ⟨i, hi, rfl⟩ := List.getElem_of_mem hy
    rw [List.length_drop] at hi
    rw [List.getElem_drop]
    by_cases h0 : i = 0
    · subst h0; simp
    · have := List.pairwise_iff_getElem.1 h k (k + i) hk (by omega) (by omega)
      simp; omega
  have h3 : m.countP (fun y => decide (y < m[k])) = (m.take k).countP (fun y => decide (y < m[k])) + (m.drop k).countP (fun y => decide (y < m[k])) := by
    rw [← List.countP_append, ← e]
  rw [h3, h1, h2, List.length_take]; omega
theorem IsRw.place {l : List Int} {r : List Nat} (h : IsRw l r) (k : Nat) (hk : k < r.length) : place l (l.getD r[k] 0) = k := by
  have hp : (r.map (l.getD · 0)).Perm l := by
    have := h.perm.map (l.getD · 0)
    rwa [range_getD] at this
  have ha : (r.map (l.getD · 0)).Pairwise (· < ·) := List.pairwise_map.2 h.asc
  have := asc_count ha k (by simpa using hk)
  rw [List.getElem_map] at this
  unfold Proofs.Ytjpimaiogdckpaa.place
  rw [← hp.countP_eq]; exact this
theorem IsRw.unique {l : List Int} {r s : List Nat} (h : IsRw l r) (h' : IsRw l s) : r = s := by
  apply List.ext_getElem
  · rw [h.len, h'.len]
  · intro k h1 h2
    have hm : r[k] ∈ s := h'.perm.mem_iff.2 (h.perm.mem_iff.1 (List.getElem_mem h1))
    obtain ⟨j, hj, hej⟩ := List.getElem_of_mem hm
    have a := h.place k h1
    have b := h'.place j hj
    rw [hej, a] at b
    subst b
    exact hej.symm
theorem IsRw.nodup {l : List Int} {r : List Nat} (h : IsRw l r) : r.Nodup := h.perm.nodup_iff.2 List.nodup_range
end Go.Proofs.Ytjpimaiogdckpaa
