/-
  LAYOUT: how often each cell was come by, so far.
-/
import Derived.Test.YtbaeckehchpfaaaRows
import Derived.ProofKit
import Derived.Test.YtbaeckehchpfaaaLayAq
namespace Go.Proofs.Ytbaeckehchpfaaa

def code (o : Nat × Int × Int × Int) : Int := ((o.2.1 * 16 + o.2.2.1) * 14 + o.1) * 64 + o.2.2.2

structure Had (q : LP) (A : Array Value) (Z : Nat) (cur : Int) : Prop where
  size : A.size = Z
  cell : ∀ x : Nat, x < Z → A[x]? = some (.int .i64 (if (x : Int) < 4 ∨ code (q.own x) < cur then 1 else 0))

theorem Had.start (q : LP) (h : q.Ok) (A : Array Value) (Z : Nat) (hZ : (Z : Int) = q.f24) (h0 : A.size = Z) (h1 : ∀ x : Nat, x < Z → A[x]? = some (.int .i64 (if x < 4 then 1 else 0))) : Had q A Z 0 :=
  ⟨h0, fun x hx => by
    rw [h1 x hx]
    by_cases h4 : x < 4
    · rw [if_pos h4, if_pos (Or.inl (by omega))]
    · obtain ⟨k, a, b, i, e, hv, -, ⟨ha, -⟩, ⟨hb, -⟩, -⟩ := own_vis q h x (by omega) (by omega)
      have hl := hv.lo
      rw [if_neg h4, if_neg]
      rw [e]; unfold code; simp only; omega⟩

theorem Had.skip {q : LP} {A : Array Value} {Z : Nat} {cur : Int} (hA : Had q A Z cur) (h : q.Ok) (hZ : (Z : Int) = q.f24) (cur' : Int) (hc : cur ≤ cur')
    (hno : ∀ k a b i, q.Vis k a b i → 0 ≤ a → 0 ≤ b → b < 16 → i < 64 → cur ≤ code (k, a, b, i) → code (k, a, b, i) < cur' → False) : Had q A Z cur' :=
  ⟨hA.size, fun x hx => by
    rw [hA.cell x hx]
    by_cases h4 : (x : Int) < 4
    · rw [if_pos (Or.inl h4), if_pos (Or.inl h4)]
    · obtain ⟨k, a, b, i, e, hv, -, ⟨ha, -⟩, ⟨hb, hb2⟩, hi⟩ := own_vis q h x (by omega) (by omega)
      have := hno k a b i hv ha hb hb2 hi
      rw [e]
      by_cases h5 : code (k, a, b, i) < cur
      · rw [if_pos (Or.inr h5), if_pos (Or.inr (by omega))]
      · rw [if_neg (by omega), if_neg]
        intro hh
        rcases hh with hh | hh
        · omega
        · exact this (by omega) hh⟩

theorem Had.visit {q : LP} {A : Array Value} {Z : Nat} (k : Nat) (a b i : Int) (hA : Had q A Z (code (k, a, b, i))) (h : q.Ok) (hZ : (Z : Int) = q.f24) (hv : q.Vis k a b i) (hb : 0 ≤ b ∧ b < 16) (hi : i < 64) (x0 : Nat) (hx : (x0 : Int) = q.val a b k + i) :
    x0 < Z ∧ A[x0]? = some (.int .i64 0) ∧ Had q (A.setIfInBounds x0 (.int .i64 1)) Z (code (k, a, b, i) + 1) := by
  obtain ⟨e0, e1, e2⟩ := own_of q h k a b i hv
  rw [← hx] at e0 e1 e2
  have hxZ : x0 < Z := by omega
  have hl := hv.lo
  have hkd := hv.kind
  refine ⟨hxZ, ?_, by simp [hA.size], fun x hxx => ?_⟩
  · rw [hA.cell x0 hxZ, e0, if_neg (by omega)]
  · by_cases hq : x0 = x
    · subst hq
      rw [Array.getElem?_setIfInBounds_self, if_pos (by rw [hA.size]; exact hxZ), e0, if_pos (Or.inr (by omega))]
    · rw [Array.getElem?_setIfInBounds_ne hq, hA.cell x hxx]
      by_cases h4 : (x : Int) < 4
      · rw [if_pos (Or.inl h4), if_pos (Or.inl h4)]
      · obtain ⟨k', a', b', i', e, hv', hval, ⟨ha', -⟩, ⟨hb', hb2'⟩, hi'⟩ := own_vis q h x (by omega) (by omega)
        have hl' := hv'.lo
        have hkd' := hv'.kind
        rw [e]
        have hne : code (k', a', b', i') ≠ code (k, a, b, i) := by
          intro hcc
          unfold code at hcc
          simp only at hcc
          have q1 : i' = i := by omega
          have q2 : k' = k := by omega
          have q3 : b' = b := by omega
          have q4 : a' = a := by omega
          subst q1 q2 q3 q4
          omega
        by_cases h5 : code (k', a', b', i') < code (k, a, b, i)
        · rw [if_pos (Or.inr h5), if_pos (Or.inr (by omega))]
        · rw [if_neg (by omega), if_neg (by omega)]

theorem Had.done {q : LP} {A : Array Value} {Z : Nat} {cur : Int} (hA : Had q A Z cur) (h : q.Ok) (hZ : (Z : Int) = q.f24) (hc : 917504 ≤ cur) (x : Nat) (hx : x < Z) : A[x]? = some (.int .i64 1) := by
  rw [hA.cell x hx]
  by_cases h4 : (x : Int) < 4
  · rw [if_pos (Or.inl h4)]
  · obtain ⟨k, a, b, i, e, hv, -, ⟨-, ha⟩, ⟨hb, hb2⟩, hi⟩ := own_vis q h x (by omega) (by omega)
    have hkd := hv.kind
    rw [if_pos (Or.inr _)]
    rw [e]; unfold code; simp only; omega

/-- no visit of this kind, here -/
theorem Had.pass {q : LP} {A : Array Value} {Z k : Nat} {a b : Int} {m : Int} (hA : Had q A Z (((a * 16 + b) * 14 + k) * 64 + m)) (h : q.Ok) (hZ : (Z : Int) = q.f24) (hk : k < 14) (hb : 0 ≤ b ∧ b < 16) (hm : 0 ≤ m ∧ m ≤ 64)
    (hno : ∀ i, m ≤ i → ¬ q.Vis k a b i) : Had q A Z (((a * 16 + b) * 14 + (k + 1 : Nat)) * 64) :=
  hA.skip h hZ _ (by omega) fun k' a' b' i' hv ha' hb' hb2' hi' g1 g2 => by
    have hl' := hv.lo
    have hkd' := hv.kind
    unfold code at g1 g2
    simp only at g1 g2
    have q2 : k' = k := by omega
    have q3 : b' = b := by omega
    have q4 : a' = a := by omega
    subst q2 q3 q4
    exact hno i' (by omega) hv
end Go.Proofs.Ytbaeckehchpfaaa
