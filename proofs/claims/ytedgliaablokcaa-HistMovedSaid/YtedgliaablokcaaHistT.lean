/-
  HIST: counts; histories that are moved; plainly.
-/
import Derived.Test.YtedgliaablokcaaHistQ
namespace Go.Proofs.Ytedgliaablokcaa
open Go.ChangeShapes Go.WideShapes Go.ChangeAt Go.RowKit

theorem count_split {α : Type} (P Q R : α → Bool) : ∀ l : List α, (∀ c ∈ l, P c = (Q c || R c)) → (∀ c ∈ l, Q c = true → R c = true → False) → l.countP P = l.countP Q + (l.filter R).length
  | [], _, _ => rfl
  | c :: l, h, hd => by
    have ih := count_split P Q R l (fun x hx => h x (List.mem_cons_of_mem _ hx)) (fun x hx => hd x (List.mem_cons_of_mem _ hx))
    have h1 := h c List.mem_cons_self
    have h2 := hd c List.mem_cons_self
    rw [List.countP_cons, List.countP_cons, List.filter_cons, ih, h1]
    cases hq : Q c <;> cases hr : R c <;> simp [hq, hr] at h2 ⊢ <;> omega

theorem count_none {α : Type} (P : α → Bool) (l : List α) (h : ∀ c ∈ l, P c = false) : l.countP P = 0 := by
  rw [List.countP_eq_zero]
  intro c hc; rw [h c hc]; exact Bool.false_ne_true
theorem count_all {α : Type} (P : α → Bool) (l : List α) (h : ∀ c ∈ l, P c = true) : l.countP P = l.length := List.countP_eq_length.2 h

theorem kindOf_rng {k : Int} (h : 1 ≤ k ∧ k ≤ 7) : 1 ≤ kindOf k ∧ kindOf k ≤ 3 := by
  unfold kindOf
  split
  · omega
  · split
    · omega
    · split <;> omega

def cO (l : List CallV) (x : Int) : Nat := l.countP fun c => decide (kindOf c.kind * 8 + c.obj < x)
def cS (l : List CallV) (x : Int) : Nat := l.countP fun c => decide (c.who < x)

theorem cO_le (l : List CallV) (x : Int) : cO l x ≤ l.length := List.countP_le_length
theorem cS_le (l : List CallV) (x : Int) : cS l x ≤ l.length := List.countP_le_length

theorem may_code {c : CallV} (h : mayC c = true) : 1 ≤ kindOf c.kind ∧ kindOf c.kind ≤ 3 ∧ 0 ≤ c.obj ∧ c.obj < 8 := by
  obtain ⟨_, _, h1, h2, h3, h4, _⟩ := mayC_true h
  have := kindOf_rng ⟨h1, h2⟩
  omega
theorem cO_step {l : List CallV} (h : rightB l = true) (k o : Int) (ho : 0 ≤ o ∧ o < 8) : cO l (k * 8 + o + 1) = cO l (k * 8 + o) + (l.filter fun c => (kindOf c.kind == k) && (c.obj == o)).length := by
  unfold cO
  refine count_split _ _ _ l (fun c hc => ?_) (fun c hc h1 h2 => ?_)
  · have := may_code (right_may h hc)
    by_cases e : kindOf c.kind = k ∧ c.obj = o
    · rw [decide_eq_true (by omega), show ((kindOf c.kind == k) && (c.obj == o)) = true by simp; exact e, Bool.or_true]
    · rw [show ((kindOf c.kind == k) && (c.obj == o)) = false by simp; intro h1 h2; exact e ⟨h1, h2⟩, Bool.or_false]
      congr 1
      apply propext
      omega
  · have h3 := of_decide_eq_true h1
    simp at h2
    omega
theorem cO_start {l : List CallV} (h : rightB l = true) : cO l 8 = 0 := count_none _ _ fun c hc => by
  have := may_code (right_may h hc)
  exact decide_eq_false (by omega)
theorem cO_end {l : List CallV} (h : rightB l = true) : cO l 32 = l.length := count_all _ _ fun c hc => by
  have := may_code (right_may h hc)
  exact decide_eq_true (by omega)
theorem cS_step (l : List CallV) (x : Int) : cS l (x + 1) = cS l x + (l.filter fun c => c.who == x).length := by
  unfold cS
  refine count_split _ _ _ l (fun c hc => ?_) (fun c hc h1 h2 => ?_)
  · by_cases e : c.who = x
    · rw [decide_eq_true (by omega), show (c.who == x) = true by simp; exact e, Bool.or_true]
    · rw [show (c.who == x) = false by simp; exact e, Bool.or_false]
      congr 1
      apply propext
      omega
  · have h3 := of_decide_eq_true h1
    simp at h2
    omega
theorem cS_start {l : List CallV} (h : rightB l = true) : cS l 0 = 0 := count_none _ _ fun c hc => by
  have := (mayC_true (right_may h hc)).1
  exact decide_eq_false (by omega)
theorem cS_end {l : List CallV} (h : rightB l = true) : cS l 8 = l.length := count_all _ _ fun c hc => by
  have := (mayC_true (right_may h hc)).2.1
  exact decide_eq_true (by omega)

theorem upto_all (l : List CallV) (x : Int) (h : ∀ j (hj : j < l.length), l[j].last ≤ x) : (l.filter fun c => decide (c.last ≤ x)) = l := by
  rw [List.filter_eq_self]
  intro c hc
  obtain ⟨j, hj, rfl⟩ := List.mem_iff_getElem.1 hc
  exact decide_eq_true (h j hj)
theorem upto_none {l : List CallV} (h : rightB l = true) : (l.filter fun c => decide (c.last ≤ -1)) = [] := by
  rw [List.filter_eq_nil_iff]
  intro c hc
  have h1 := right_may h hc
  have := may_le h1
  have := may_nn h1
  simp; omega
theorem of_none {l : List CallV} (h : rightB l = true) : (l.filter fun c => (kindOf c.kind == 0) && (c.obj == 0)) = [] := by
  rw [List.filter_eq_nil_iff]
  intro c hc
  have := may_code (right_may h hc)
  simp; omega

/-- a call, later by d -/
def mv (d : Int) (c : CallV) : CallV := { c with first := c.first + d, last := c.last + d, point := if 0 ≤ c.point then c.point + d else c.point }
theorem mv_may {d : Int} (hd : 0 ≤ d) {c : CallV} (h : mayC c = true) : mayC (mv d c) = true := by
  have := mayC_true h
  unfold mayC mv
  simp only [decide_eq_true_eq]
  split <;> omega
theorem mv_behind {d : Int} {a b : CallV} (h : behindC a b = true) : behindC (mv d a) (mv d b) = true := by
  have h1 := behind_first h
  have h2 := behind_who h
  refine decide_eq_true ⟨?_, fun hw => ?_⟩
  · show a.first + d < b.first + d; omega
  · have := h2 hw
    show a.last + d < b.first + d; omega
theorem mv_right {d : Int} (hd : 0 ≤ d) {l : List CallV} (h : rightB l = true) : rightB (l.map (mv d)) = true := by
  unfold rightB at h ⊢
  rw [Bool.and_eq_true, List.all_eq_true, decide_eq_true_eq] at h ⊢
  refine ⟨fun c hc => ?_, ?_⟩
  · obtain ⟨x, hx, rfl⟩ := List.mem_map.1 hc
    exact mv_may hd (h.1 x hx)
  · rw [List.pairwise_map]
    exact h.2.imp mv_behind
theorem mv_ahead (d : Int) (a b : CallV) : aheadB (mv d a) (mv d b) = aheadB a b := by
  unfold aheadB mv
  congr 1
  apply propext
  show a.last + d < b.first + d ↔ _
  omega
end Go.Proofs.Ytedgliaablokcaa
