/-
  A BLOCK THAT IS FILLED FROM ITS FRONT, a record at a time (make([]T, n), then all[i] = ..), stores of whole records by ranges.
-/
import Derived.Test.YtbfbfpjfmdannaaBlk
import Derived.Deep.MidRow
import Derived.Deep.OwnRows
namespace Go.Proofs.Ytbfbfpjfmdannaa
open Go.RowKit

theorem putAll {g : Nat} {t : TypeId} : ∀ (vs : List Value) (o : Nat) (w : World) (cur : Array Value), Blk w g t cur → o + vs.length ≤ cur.size → ∃ cur', Blk (w.setCells g o vs) g t cur' ∧ cur'.size = cur.size ∧ ∀ j, cur'[j]? = if o ≤ j ∧ j < o + vs.length then vs[j - o]? else cur[j]?
  | [], o, w, cur, h, _ => ⟨cur, h, rfl, fun j => by rw [if_neg (by simp)]⟩
  | v :: r, o, w, cur, h, hl => by
    obtain ⟨c2, h1, h2, h3⟩ := putAll r (o + 1) _ _ (h.put o v) (by simp at hl ⊢; omega)
    refine ⟨c2, h1, by rw [h2]; simp, fun j => ?_⟩
    rw [h3 j]
    simp only [List.length_cons] at hl ⊢
    by_cases e1 : o + 1 ≤ j ∧ j < o + 1 + r.length
    · rw [if_pos e1, if_pos (by omega), show j - o = (j - (o + 1)) + 1 by omega, List.getElem?_cons_succ]
    · rw [if_neg e1]
      by_cases e2 : j = o
      · subst e2
        rw [if_pos (by omega), Nat.sub_self, List.getElem?_cons_zero, Array.getElem?_setIfInBounds_self, if_pos (by omega)]
      · rw [if_neg (by omega), Array.getElem?_setIfInBounds_ne (by omega)]

/-- a block of S cells, of which the first ones are L -/
def Fill (w : World) (g : Nat) (T : TypeId) (S : Nat) (L : List Value) : Prop := ∃ cur : Array Value, Blk w g T cur ∧ cur.size = S ∧ L.length ≤ S ∧ ∀ j, j < L.length → cur[j]? = L[j]?
theorem Fill.lt {w : World} {g : Nat} {T : TypeId} {S : Nat} {L : List Value} (h : Fill w g T S L) : g < w.heap.size := by
  obtain ⟨cur, h1, _⟩ := h
  exact h1.lt
theorem Fill.made (w : World) (T : TypeId) (c : Array Value) : Fill (w.alloc (.cells c T)) w.heap.size T c.size [] := ⟨c, Blk.made _ _ _, rfl, Nat.zero_le _, fun j hj => absurd hj (by simp)⟩
theorem Fill.later {w w1 : World} {g : Nat} {T : TypeId} {S : Nat} {L : List Value} (h : Fill w g T S L) (hb : Below w.heap.size w w1) : Fill w1 g T S L := by
  obtain ⟨cur, h1, h2⟩ := h
  exact ⟨cur, h1.later hb, h2⟩
theorem Fill.there {w : World} {g : Nat} {T : TypeId} {S : Nat} {L : List Value} (h : Fill w g T S L) {k : Nat} (hk : L.length + k ≤ S) : w.there g L.length k := fun j hj => by
  obtain ⟨cur, h1, h2, h3, h4⟩ := h
  refine ⟨?_, h1.free _⟩
  rw [h1.cell, Array.getElem?_eq_getElem (by omega)]
  rfl
theorem Fill.put {w : World} {g : Nat} {T : TypeId} {S : Nat} {L : List Value} (h : Fill w g T S L) (vs : List Value) (hk : L.length + vs.length ≤ S) : Fill (w.setCells g L.length vs) g T S (L ++ vs) := by
  obtain ⟨cur, h1, h2, h3, h4⟩ := h
  obtain ⟨c2, g1, g2, g3⟩ := putAll vs L.length w cur h1 (by omega)
  refine ⟨c2, g1, by omega, by rw [List.length_append]; exact hk, fun j hj => ?_⟩
  rw [List.length_append] at hj
  rw [g3 j]
  by_cases e : j < L.length
  · rw [if_neg (by omega), h4 j e, List.getElem?_append_left e]
  · rw [if_pos (by omega), List.getElem?_append_right (by omega)]
theorem Fill.cells {w : World} {g : Nat} {T : TypeId} {S : Nat} {L : List Value} (h : Fill w g T S L) : Cells w (some ⟨g, 0, none⟩) L := by
  obtain ⟨cur, h1, h2, h3, h4⟩ := h
  refine ⟨fun i hi => ⟨g, 0, rfl, h1.lt, ?_⟩⟩
  rw [h1.cell, Nat.zero_add, h4 i hi, List.getElem?_eq_getElem hi]
theorem below_setCells {B b : Nat} {w : World} (hb : B ≤ b) : ∀ (vs : List Value) (o : Nat) {x : World}, Below B w x → Below B w (x.setCells b o vs)
  | [], _, _, h => h
  | v :: vs, o, _, h => below_setCells hb vs (o + 1) (h.setCell hb v)
end Go.Proofs.Ytbfbfpjfmdannaa
