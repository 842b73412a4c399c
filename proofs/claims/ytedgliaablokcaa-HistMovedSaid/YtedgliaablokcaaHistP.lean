/-
  HIST: which histories are right, plainly.
-/
import Derived.Test.YtedgliaablokcaaHistA
namespace Go.Proofs.Ytedgliaablokcaa
open Go.ChangeShapes Go.WideShapes Go.ChangeAt Go.RowKit

/-- may d stand behind c? -/
def behindC (c d : CallV) : Bool := decide (c.first < d.first ∧ (c.who = d.who → c.last < d.first))
def rightB (h : List CallV) : Bool := h.all mayC && decide (h.Pairwise fun c d => behindC c d = true)

def OkUpto (h : List CallV) (n : Nat) : Prop := ∀ i (hi : i < h.length), i < n → mayC h[i] = true ∧ ∀ k (hk : k < h.length), k < i → behindC h[k] h[i] = true

theorem rightB_iff (h : List CallV) : rightB h = true ↔ OkUpto h h.length := by
  unfold rightB OkUpto
  rw [Bool.and_eq_true, decide_eq_true_eq, List.all_eq_true, List.pairwise_iff_getElem]
  constructor
  · rintro ⟨h1, h2⟩ i hi _
    exact ⟨h1 _ (List.getElem_mem hi), fun k hk hki => h2 k i hk hi hki⟩
  · intro hh
    refine ⟨fun c hc => ?_, fun i j hi hj hij => (hh j hj hj).2 i hi hij⟩
    obtain ⟨i, hi, rfl⟩ := List.mem_iff_getElem.1 hc
    exact (hh i hi hi).1

theorem OkUpto.zero (h : List CallV) : OkUpto h 0 := fun _ _ h => absurd h (by omega)

theorem OkUpto.step {h : List CallV} {n : Nat} (H : OkUpto h n) (hn : n < h.length) (hm : mayC h[n] = true) (hb : ∀ k (hk : k < h.length), k < n → behindC h[k] h[n] = true) : OkUpto h (n + 1) := by
  intro i hi hin
  by_cases e : i < n
  · exact H i hi e
  · obtain rfl : i = n := by omega
    exact ⟨hm, hb⟩

theorem not_right {h : List CallV} (H : ¬ OkUpto h h.length) : rightB h = false := by
  cases hr : rightB h
  · rfl
  · exact absurd ((rightB_iff h).1 hr) H
theorem not_may {h : List CallV} (i : Nat) (hi : i < h.length) (hm : mayC h[i] = false) : rightB h = false :=
  not_right fun H => by have := (H i hi hi).1; rw [hm] at this; cases this
theorem not_behind {h : List CallV} (k i : Nat) (hk : k < h.length) (hi : i < h.length) (hki : k < i) (hb : behindC h[k] h[i] = false) : rightB h = false :=
  not_right fun H => by have := (H i hi hi).2 k hk hki; rw [hb] at this; cases this

theorem behind_first {c d : CallV} (h : behindC c d = true) : c.first < d.first := (of_decide_eq_true h).1
theorem behind_who {c d : CallV} (h : behindC c d = true) (hw : c.who = d.who) : c.last < d.first := (of_decide_eq_true h).2 hw

/-- the last call ahead of the k-th that this seat made -/
def lastOf (h : List CallV) (who : Int) : Nat → Option Nat
  | 0 => none
  | k + 1 => if (h[k]?).map (·.who) = some who then some k else lastOf h who k

theorem lastOf_none {h : List CallV} {who : Int} : ∀ k, lastOf h who k = none → ∀ m (hm : m < h.length), m < k → h[m].who ≠ who
  | 0, _, m, _, hk => absurd hk (by omega)
  | k + 1, e, m, hm, hk => by
    unfold lastOf at e
    split at e
    · cases e
    · rename_i hne
      by_cases hmk : m = k
      · subst hmk
        intro hw
        apply hne
        rw [List.getElem?_eq_getElem hm]
        simp [hw]
      · exact lastOf_none k e m hm (by omega)

theorem lastOf_some {h : List CallV} {who : Int} : ∀ k q, lastOf h who k = some q → ∃ hq : q < h.length, q < k ∧ h[q].who = who ∧ ∀ m (hm : m < h.length), q < m → m < k → h[m].who ≠ who
  | 0, q, e => by cases e
  | k + 1, q, e => by
    unfold lastOf at e
    split at e
    · rename_i hw
      injection e with e
      subst e
      have hlt : k < h.length := by
        rcases Nat.lt_or_ge k h.length with h1 | h1
        · exact h1
        · rw [List.getElem?_eq_none h1] at hw; cases hw
      rw [List.getElem?_eq_getElem hlt] at hw
      exact ⟨hlt, by omega, by simpa using hw, fun m _ h1 h2 => by omega⟩
    · rename_i hne
      obtain ⟨hq, h1, h2, h3⟩ := lastOf_some k q e
      refine ⟨hq, by omega, h2, fun m hm h4 h5 => ?_⟩
      by_cases hmk : m = k
      · subst hmk
        intro hw
        apply hne
        rw [List.getElem?_eq_getElem hm]
        simp [hw]
      · exact h3 m hm h4 (by omega)

/-- what the program asks of a call is enough -/
theorem behind_all {h : List CallV} {n : Nat} (H : OkUpto h n) (hn : n < h.length) (hf : ∀ (h0 : 0 < n), h[n - 1].first < h[n].first)
    (hl : ∀ q (hq : q < h.length), lastOf h h[n].who n = some q → h[q].last < h[n].first) : ∀ k (hk : k < h.length), k < n → behindC h[k] h[n] = true := by
  intro k hk hkn
  have h1 := hf (by omega)
  have hn1 : n - 1 < h.length := by omega
  have h2 : h[k].first ≤ h[n - 1].first := by
    by_cases e : k = n - 1
    · subst e; exact Int.le_refl _
    · exact Int.le_of_lt (behind_first ((H (n - 1) hn1 (by omega)).2 k hk (by omega)))
  refine decide_eq_true ⟨by omega, fun hw => ?_⟩
  cases hq : lastOf h h[n].who n with
  | none => exact absurd hw (lastOf_none n hq k hk hkn)
  | some q =>
    obtain ⟨hq1, hq2, hq3, hq4⟩ := lastOf_some n q hq
    have h3 := hl q hq1 hq
    by_cases e : k = q
    · subst e; exact h3
    · have hkq : k < q := by
        rcases Nat.lt_or_ge q k with h5 | h5
        · exact absurd hw (hq4 k hk h5 hkn)
        · omega
      have hb := behind_who ((H q hq1 (by omega)).2 k hk hkq) (by rw [hw, hq3])
      have hm := (mayC_true (H q hq1 (by omega)).1).2.2.2.2.2.2.2.1
      omega

/-- the array of the last calls, by seats -/
def befV (b off : Nat) (h : List CallV) (k : Nat) : Array Value := Array.ofFn fun j : Fin 8 => match lastOf h (j.val : Int) k with | none => Value.pointer none | some q => .pointer (some ⟨b, off + q * 10, none⟩)
theorem befV_size (b off : Nat) (h : List CallV) (k : Nat) : (befV b off h k).size = 8 := by simp [befV]
theorem befV_at (b off : Nat) (h : List CallV) (k j : Nat) (hj : j < 8) : (befV b off h k)[j]? = some (match lastOf h (j : Int) k with | none => Value.pointer none | some q => .pointer (some ⟨b, off + q * 10, none⟩)) := by
  unfold befV
  rw [Array.getElem?_ofFn, dif_pos hj]
theorem befV_put (b off : Nat) (h : List CallV) (k j : Nat) (hk : k < h.length) (hj : j < 8) (hw : h[k].who = (j : Int)) :
    (befV b off h k).setIfInBounds j (.pointer (some ⟨b, off + k * 10, none⟩)) = befV b off h (k + 1) := by
  apply Array.ext_getElem?
  intro i
  by_cases hi : i < 8
  · rw [befV_at _ _ _ _ _ hi]
    by_cases e : j = i
    · subst e
      rw [Array.getElem?_setIfInBounds_self, if_pos (by rw [befV_size]; exact hj)]
      unfold lastOf
      rw [List.getElem?_eq_getElem hk]
      simp [hw]
    · rw [Array.getElem?_setIfInBounds_ne e, befV_at _ _ _ _ _ hi]
      congr 1
      conv => rhs; unfold lastOf
      rw [List.getElem?_eq_getElem hk]
      rw [if_neg]
      simp only [Option.map_some, Option.some.injEq, hw]
      omega
  · rw [Array.getElem?_eq_none (by simp [befV_size]; omega), Array.getElem?_eq_none (by rw [befV_size]; omega)]
end Go.Proofs.Ytedgliaablokcaa
