/-
  MEM: two accesses, and their order: pure facts.
-/
import Derived.Test.YtnjpdgahjbijcaaMemF
namespace Go.Proofs.Ytnjpdgahjbijcaa
open Go.RowKit

theorem why_range {len : Nat} {k c o n : Int} (h : whyF len k c o n = 0) : 0 ≤ c ∧ c < len := by
  unfold whyF at h
  split at h
  · simp at h
  · split at h
    · simp at h
    · rename_i h1 h2
      simp [rightB] at h1
      omega

/-- what an access leaves in its cell -/
def valF (had k o n : Int) : Int := if k = 1 then had else if k = 3 ∧ had ≠ o then had else if k = 4 then wrap64 (had + n) else n

theorem getD_lt {xs : List Int} {i : Nat} (h : i < xs.length) : xs.getD i 0 = xs[i] := by simp [List.getD, h]

theorem madeF_set {xs : List Int} {k c o n : Int} (h : c.toNat < xs.length) : madeF xs k c o n = xs.set c.toNat (valF (xs.getD c.toNat 0) k o n) := by
  have hs : xs.set c.toNat (xs.getD c.toNat 0) = xs := by rw [getD_lt h, List.set_getElem_self]
  unfold madeF valF
  split
  · exact hs.symm
  · split
    · exact hs.symm
    · split <;> rfl

theorem getD_set_ne {xs : List Int} {i j : Nat} {v : Int} (h : i ≠ j) : (xs.set i v).getD j 0 = xs.getD j 0 := by
  simp [List.getD, List.getElem?_set_ne h]
theorem getD_set_eq {xs : List Int} {i : Nat} {v : Int} (h : i < xs.length) : (xs.set i v).getD i 0 = v := by
  simp [List.getD, h]

theorem wrap64_add (h a b : Int) : wrap64 (wrap64 (h + a) + b) = wrap64 (wrap64 (h + b) + a) := by unfold wrap64; omega

/-- two accesses that may change places -/
def swaps (A B : Acc) : Prop := A.c = B.c → A.k = B.k ∧ (A.k = 1 ∨ A.k = 4)

theorem apart_facts {xs : List Int} {A B : Acc} (hA : whyF xs.length A.k A.c A.o A.n = 0) (hB : whyF xs.length B.k B.c B.o B.n = 0) (hs : swaps A B) :
    madeTo xs [A, B] 2 = madeTo xs [B, A] 2 ∧ ∃ ra rb sa sb, toldTo xs [A, B] 2 = [ra, rb] ∧ toldTo xs [B, A] 2 = [sb, sa] ∧ ((A.c = B.c ∧ A.k = 4) ∨ (ra = sa ∧ rb = sb)) := by
  have ra := why_range hA
  have rb := why_range hB
  have la : A.c.toNat < xs.length := by omega
  have lb : B.c.toNat < xs.length := by omega
  have e1 : madeTo xs [A, B] 2 = madeF (madeF xs A.k A.c A.o A.n) B.k B.c B.o B.n := rfl
  have e2 : madeTo xs [B, A] 2 = madeF (madeF xs B.k B.c B.o B.n) A.k A.c A.o A.n := rfl
  have t1 : toldTo xs [A, B] 2 = [(xs.getD A.c.toNat 0, wentF xs A.k A.c A.o), ((madeF xs A.k A.c A.o A.n).getD B.c.toNat 0, wentF (madeF xs A.k A.c A.o A.n) B.k B.c B.o)] := rfl
  have t2 : toldTo xs [B, A] 2 = [(xs.getD B.c.toNat 0, wentF xs B.k B.c B.o), ((madeF xs B.k B.c B.o B.n).getD A.c.toNat 0, wentF (madeF xs B.k B.c B.o B.n) A.k A.c A.o)] := rfl
  rw [e1, e2]
  refine ⟨?_, _, _, _, _, t1, t2, ?_⟩
  · rw [madeF_set (xs := madeF xs A.k A.c A.o A.n) (by rw [madeF_length]; exact lb), madeF_set (xs := madeF xs B.k B.c B.o B.n) (by rw [madeF_length]; exact la), madeF_set la, madeF_set lb]
    by_cases hc : A.c = B.c
    · obtain ⟨hk, h⟩ := hs hc
      rw [← hc, getD_set_eq la, getD_set_eq la, List.set_set, List.set_set]
      congr 1
      rw [← hk]
      rcases h with h | h
      · simp [valF, h]
      · simp only [valF, h]
        exact wrap64_add _ _ _
    · have hn : A.c.toNat ≠ B.c.toNat := by omega
      rw [getD_set_ne hn, getD_set_ne (Ne.symm hn), List.set_comm _ _ hn]
  · by_cases hc : A.c = B.c
    · obtain ⟨hk, h⟩ := hs hc
      rcases h with h | h
      · right
        simp [madeF, h, ← hk, hc]
      · exact .inl ⟨hc, h⟩
    · right
      have hn : A.c.toNat ≠ B.c.toNat := by omega
      have g1 : (madeF xs B.k B.c B.o B.n).getD A.c.toNat 0 = xs.getD A.c.toNat 0 := by rw [madeF_set lb, getD_set_ne (Ne.symm hn)]
      have g2 : (madeF xs A.k A.c A.o A.n).getD B.c.toNat 0 = xs.getD B.c.toNat 0 := by rw [madeF_set la, getD_set_ne hn]
      simp only [wentF, g1, g2, and_self]

theorem why_two (m : Nat) (A B : Acc) : whyTo m [A, B] 2 = if whyF m A.k A.c A.o A.n = 0 then whyF m B.k B.c B.o B.n else whyF m A.k A.c A.o A.n := rfl

theorem why_both {m : Nat} {A B : Acc} : (whyTo m [A, B] 2 = 0 ↔ whyTo m [B, A] 2 = 0) ∧ (whyTo m [A, B] 2 = 0 → whyF m A.k A.c A.o A.n = 0 ∧ whyF m B.k B.c B.o B.n = 0) := by
  rw [why_two, why_two]
  constructor
  · split <;> split <;> simp_all
  · split
    · intro h; exact ⟨by assumption, h⟩
    · intro h; contradiction

end Go.Proofs.Ytnjpdgahjbijcaa
