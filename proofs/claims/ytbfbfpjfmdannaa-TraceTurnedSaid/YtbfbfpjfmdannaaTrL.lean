/-
  TRACE: a row of bytes of which one is turned.
-/
import Derived.Test.YtbfbfpjfmdannaaTrJ
import Derived.Test.YtbfbfpjfmdannaaWireV
namespace Go.Proofs.Ytbfbfpjfmdannaa
open Go.ChangeShapes Go.WideShapes Go.ChangeAt Go.RowKit

theorem OwnB.put {w : World} {base g cap : Nat} {bs : List Int} (h : OwnB w base (.slice (some ⟨g, 0, none⟩) bs.length cap) bs) (i : Nat) (y : Int) (hy : In8 y) : OwnB (w.setCell ⟨g, i, none⟩ (.int .u8 y)) base (.slice (some ⟨g, 0, none⟩) bs.length cap) (bs.set i y) := by
  have := (h.1.stored i (.int .u8 y)).1
  refine ⟨?_, fun z hz => ?_⟩
  · rw [List.length_set, List.map_set]; exact this
  · rcases List.mem_or_eq_of_mem_set hz with h1 | h1
    · exact h.2 z h1
    · rw [h1]; exact hy
theorem OwnB.full {w : World} {base : Nat} {v : Value} {bs : List Int} (h : OwnB w base v bs) (i : Nat) (hi : i < bs.length) :
    ∃ g cap, v = .slice (some ⟨g, 0, none⟩) bs.length cap ∧ base ≤ g ∧ w.cell? ⟨g, i, none⟩ = some (.int .u8 (bs.getD i 0)) ∧ w.frozen? ⟨g, i, none⟩ = false := by
  obtain ⟨p, cap, hv, hx, h1 | ⟨g, h1, h2, h3⟩⟩ := h.opened
  · rw [h1.2] at hi; simp at hi
  · subst h1
    subst hv
    obtain ⟨b', o', e1, _, k⟩ := hx.cells i hi
    injection e1 with e1
    injection e1 with e1 e2
    subst e1 e2
    rw [Nat.zero_add] at k
    refine ⟨g, cap, rfl, h2, ?_, h.1.frozenAt i⟩
    rw [k, List.getD_eq_getElem?_getD, List.getElem?_eq_getElem hi]; rfl
/-- a row that was turned, as it is parsed -/
theorem OwnB.turned {w : World} {base g cap : Nat} {bs : List Int} (h : OwnB w base (.slice (some ⟨g, 0, none⟩) bs.length cap) bs) (i : Nat) (y : Int) (hy : In8 y) : Byts (w.setCell ⟨g, i, none⟩ (.int .u8 y)) (some ⟨g, 0, none⟩) (bs.set i y) ∧ bs.length ≤ cap := by
  have T := h.put i y hy
  rw [show (Value.slice (some ⟨g, 0, none⟩) bs.length cap) = .slice (some ⟨g, 0, none⟩) (bs.set i y).length cap from by rw [List.length_set]] at T
  obtain ⟨p, c, hv, hx, hc, _⟩ := T.fits
  injection hv with e1 e2 e3
  subst e1 e3
  rw [List.length_set] at hc
  exact ⟨hx, hc⟩
theorem bytes_se (p : Option Addr) (l : List EvV) (n cap : Nat) (se : List Int) (hn : l.length = n) (hm : n ≤ 100) (hse : trBytes l = se) (w : World) (E : EvsR w p l) :
    Calls Try.prog 9 #[.slice p n cap] w (SlicePost w se se.length) := by
  subst hse; exact bytes_any p l n cap hn hm w E
theorem getD_in8 {bs : List Int} (h : ∀ x ∈ bs, In8 x) (i : Nat) (hi : i < bs.length) : In8 (bs.getD i 0) := by
  rw [List.getD_eq_getElem?_getD, List.getElem?_eq_getElem hi]; exact h _ (List.getElem_mem hi)
theorem byts_one (w : World) (x : Int) (hx : In8 x) : Byts (w.alloc (Obj.cells #[.int .u8 x] 5)) (some ⟨w.heap.size, 0, none⟩) [x] := byts_new w [x] (fun z hz => by simp at hz; rw [hz]; exact hx)
theorem set_ne {bs : List Int} {i : Nat} (hi : i < bs.length) {y : Int} (h : y ≠ bs.getD i 0) : bs.set i y ≠ bs := fun e => h (by
  have h1 : (bs.set i y).getD i 0 = bs.getD i 0 := by rw [e]
  rw [← h1, List.getD_eq_getElem?_getD, List.getElem?_set_self hi]; rfl)
theorem set_same {bs : List Int} {i : Nat} (hi : i < bs.length) : bs.set i (bs.getD i 0) = bs := by
  rw [List.getD_eq_getElem?_getD, List.getElem?_eq_getElem hi]
  exact List.set_getElem_self hi
end Go.Proofs.Ytbfbfpjfmdannaa
