/-
  SP: the tasks that are there: an own row of records of two numbers, whose last one is read, turned, put in, taken off.
-/
import Derived.Test.YtjpimaiogdckpaaSpA
import Derived.Test.YtjpimaiogdckpaaSpS
import Derived.Laws.OwnMore
namespace Go.Proofs.Ytjpimaiogdckpaa
open Go.ChangeShapes Go.WideShapes Go.ChangeAt Go.RowKit

def tkC (t : Nat × Nat) : List Value := [.int .i64 t.1, .int .i64 t.2]
def tkV (ts : List (Nat × Nat)) : List Value := ts.flatMap tkC
theorem tkV_length : ∀ ts : List (Nat × Nat), (tkV ts).length = ts.length * 2
  | [] => rfl
  | t :: ts => by
    have := tkV_length ts
    unfold tkV at this ⊢
    simp only [List.flatMap_cons, List.length_append, List.length_cons, this]
    show 2 + _ = _
    omega
theorem tkV_snoc (ts : List (Nat × Nat)) (t : Nat × Nat) : tkV (ts ++ [t]) = tkV ts ++ tkC t := by unfold tkV; simp

theorem tkV_take {k : Nat} {ts : List (Nat × Nat)} {t : Nat × Nat} (hl : ts.length = k) : (tkV (ts ++ [t])).take (k * 2) = tkV ts := by
  have hk : (tkV ts).length = k * 2 := by rw [tkV_length, hl]
  rw [tkV_snoc, ← hk, List.take_left]

/-- the row, opened -/
theorem task_row {w : World} {base : Nat} {T : TypeId} {v : Value} {k : Nat} {ts : List (Nat × Nat)} (h : w.ownsRow base T 2 v (k + 1) (tkV ts)) :
    ∃ g cap cur, v = .slice (some ⟨g, 0, none⟩) (k + 1) cap ∧ base ≤ g ∧ Blk w g T cur ∧ k + 1 ≤ cap ∧ cap ≤ maxLen ∧ cur.size = cap * 2 ∧ cur.toList.take ((k + 1) * 2) = tkV ts := by
  rcases h.2 with ⟨_, h0⟩ | ⟨g, cap, cur, h1, h2, h3, h4, h5, h6, h7⟩
  · omega
  · exact ⟨g, cap, cur, h1, h2, h3, h4, h5, h6, h7⟩

/-- the last one's cells -/
theorem task_top {w : World} {g : Nat} {T : TypeId} {cur : Array Value} {k : Nat} {ts : List (Nat × Nat)} {t : Nat × Nat} (hB : Blk w g T cur) (hl : ts.length = k) (ht : cur.toList.take ((k + 1) * 2) = tkV (ts ++ [t])) :
    w.cell? ⟨g, k * 2, none⟩ = some (.int .i64 t.1) ∧ w.cell? ⟨g, k * 2 + 1, none⟩ = some (.int .i64 t.2) := by
  have key : ∀ j, j < 2 → cur[k * 2 + j]? = (tkC t)[j]? := fun j hj => by
    have h1 : (cur.toList.take ((k + 1) * 2))[k * 2 + j]? = (tkV (ts ++ [t]))[k * 2 + j]? := by rw [ht]
    rw [List.getElem?_take, if_pos (by omega), Array.getElem?_toList, tkV_snoc, List.getElem?_append_right (by rw [tkV_length, hl]; omega)] at h1
    rw [h1, tkV_length, hl]
    congr 1
    omega
  exact ⟨by rw [hB.cell]; exact key 0 (by omega), by rw [hB.cell]; exact key 1 (by omega)⟩

/-- the one below it -/
theorem task_next {w : World} {g : Nat} {T : TypeId} {cur : Array Value} {k : Nat} {ts : List (Nat × Nat)} {t t2 : Nat × Nat} (hB : Blk w g T cur) (hl : ts.length = k) (ht : cur.toList.take ((k + 1 + 1) * 2) = tkV (ts ++ [t] ++ [t2])) :
    w.cell? ⟨g, k * 2 + 1, none⟩ = some (.int .i64 t.2) := by
  have h1 : (cur.toList.take ((k + 1 + 1) * 2))[k * 2 + 1]? = (tkV (ts ++ [t] ++ [t2]))[k * 2 + 1]? := by rw [ht]
  rw [List.getElem?_take, if_pos (by omega), Array.getElem?_toList, tkV_snoc, List.getElem?_append_left (by rw [tkV_length]; simp [hl]; omega), tkV_snoc, List.getElem?_append_right (by rw [tkV_length, hl]; omega), tkV_length, hl] at h1
  rw [hB.cell, h1, show k * 2 + 1 - k * 2 = 1 by omega]
  rfl

/-- the last one turned -/
theorem task_put {w : World} {base g : Nat} {T : TypeId} {cur : Array Value} {k cap : Nat} {ts : List (Nat × Nat)} {t : Nat × Nat} (u : Nat × Nat) (hb : base ≤ g) (hB : Blk w g T cur) (hl : ts.length = k) (h1 : k + 1 ≤ cap) (h2 : cap ≤ maxLen) (h3 : cur.size = cap * 2) (ht : cur.toList.take ((k + 1) * 2) = tkV (ts ++ [t])) :
    ((w.setCell ⟨g, k * 2, none⟩ (.int .i64 u.1)).setCell ⟨g, k * 2 + 1, none⟩ (.int .i64 u.2)).ownsRow base T 2 (.slice (some ⟨g, 0, none⟩) (k + 1) cap) (k + 1) (tkV (ts ++ [u])) := by
  have hB2 := (hB.put (k * 2) (.int .i64 u.1)).put (k * 2 + 1) (.int .i64 u.2)
  refine ⟨by rw [tkV_length]; simp [hl], .inr ⟨g, cap, _, rfl, hb, hB2, h1, h2, by simpa using h3, ?_⟩⟩
  have ht0 : cur.toList.take (k * 2) = tkV ts := by
    have : (cur.toList.take ((k + 1) * 2)).take (k * 2) = (tkV (ts ++ [t])).take (k * 2) := by rw [ht]
    rw [List.take_take, Nat.min_eq_left (by omega), tkV_take hl] at this
    exact this
  have hsz : k * 2 + 1 < cur.toList.length := by rw [Array.length_toList, h3]; omega
  apply List.ext_getElem?
  intro j
  rw [tkV_snoc]
  by_cases hj : j < k * 2
  · rw [List.getElem?_take, if_pos (by omega), Array.getElem?_toList, Array.getElem?_setIfInBounds_ne (by omega), Array.getElem?_setIfInBounds_ne (by omega), List.getElem?_append_left (by rw [tkV_length, hl]; exact hj), ← ht0, List.getElem?_take, if_pos hj, Array.getElem?_toList]
  · rw [List.getElem?_append_right (by rw [tkV_length, hl]; omega), tkV_length, hl]
    by_cases e0 : j = k * 2
    · subst e0
      rw [List.getElem?_take, if_pos (by omega), Array.getElem?_toList, Array.getElem?_setIfInBounds_ne (by omega), Array.getElem?_setIfInBounds_self, if_pos (by rw [Array.length_toList] at hsz; omega), Nat.sub_self]
      rfl
    by_cases e1 : j = k * 2 + 1
    · subst e1
      rw [List.getElem?_take, if_pos (by omega), Array.getElem?_toList, Array.getElem?_setIfInBounds_self, if_pos (by rw [Array.length_toList] at hsz; simpa using hsz), show k * 2 + 1 - k * 2 = 1 by omega]
      rfl
    · rw [List.getElem?_take, if_neg (by omega), List.getElem?_eq_none (by show 2 ≤ _; omega)]

/-- the last one taken off -/
theorem task_pop {w : World} {base g : Nat} {T : TypeId} {cur : Array Value} {k cap : Nat} {ts : List (Nat × Nat)} {t : Nat × Nat} (hb : base ≤ g) (hB : Blk w g T cur) (hl : ts.length = k) (h1 : k + 1 ≤ cap) (h2 : cap ≤ maxLen) (h3 : cur.size = cap * 2) (ht : cur.toList.take ((k + 1) * 2) = tkV (ts ++ [t])) :
    w.ownsRow base T 2 (.slice (some ⟨g, 0, none⟩) k cap) k (tkV ts) := by
  refine ⟨by rw [tkV_length, hl], .inr ⟨g, cap, cur, rfl, hb, hB, by omega, h2, h3, ?_⟩⟩
  have : (cur.toList.take ((k + 1) * 2)).take (k * 2) = (tkV (ts ++ [t])).take (k * 2) := by rw [ht]
  rw [List.take_take, Nat.min_eq_left (by omega), tkV_take hl] at this
  exact this
end Go.Proofs.Ytjpimaiogdckpaa
