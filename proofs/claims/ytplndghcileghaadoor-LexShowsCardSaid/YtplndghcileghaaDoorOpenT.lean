/-
  LEX: what a row of words is that came in.
-/
import Derived.Test.YtplndghcileghaaDoorLexT
import Derived.OpenShut
import Derived.ChangeOld
import Derived.ChangeSame
import Derived.Deep.Slices
import Derived.Lib.SmallJoins
namespace Go.Proofs.YtplndghcileghaaDoor
open Go.ChangeShapes Go.WideShapes Go.ChangeAt Go.RowKit Go.Deep

section
variable {H : Type} {enc : TypeId × Value → H} {w : World} {base : Nat} {held : Bool}
set_option maxRecDepth 100000 in
theorem toks_of_trod2 {fuel : Nat} {cs : List Value} {x : DataW H × List MemPlace} (hf : DataW.trod enc Tryd.prog w base (fun _ => true) held fuel 23 cs = some x) :
    ∃ a len cap l, cs = [.slice a len cap] ∧ Toks w a l ∧ l.length = len ∧ len ≤ maxLen ∧ len ≤ cap ∧ (a = none → cap = 0) := by
  rcases open_slice Tryd.underlying23 hf with ⟨hcs, _⟩ | ⟨a, len, cap, m, n, D, Pl, hcs, _, hl, hm, hmm, _, hi⟩
  · exact ⟨none, 0, 0, [], hcs, ⟨fun i h => absurd h (by simp)⟩, rfl, by omega, by omega, fun _ => rfl⟩
  · have hC : Tryd.prog.cellsOf 30 = 4 := by kernel_rfl
    have hC1 : Tryd.prog.cellsOf 3 = 1 := by kernel_rfl
    have hC9 : Tryd.prog.cellsOf 9 = 1 := by kernel_rfl
    have hel : ∀ i, i < len → ∃ c : TokV, w.cell? (a.add (i * 4)) = some (.int .i64 c.k) ∧ w.cell? (a.add (i * 4 + 1)) = some (.string c.t) ∧ w.cell? (a.add (i * 4 + 2)) = some (.int .i64 c.n) ∧ w.cell? (a.add (i * 4 + 3)) = some (.int .i64 c.p) := by
      intro i hil
      have him : i < m := by rw [hmm]; simp; omega
      obtain ⟨cs', hc, ht⟩ := hi i him
      rw [hC] at hc
      obtain ⟨_, hlen, hat⟩ := World.cells?_some hc
      obtain ⟨y0, y1, y2, y3, n', _, _, h0, h1, h2, h3⟩ := Go.Joins.trod_struct4 Tryd.underlying30 ht
      match cs', hlen with
      | [c0, c1, c2, c3], _ =>
        obtain ⟨x0, e0, _, _⟩ := DataW.trod_int Tryd.underlying3 h0
        obtain ⟨x1, e1, _⟩ := DataW.trod_string Tryd.underlying9 h1
        obtain ⟨x2, e2, _, _⟩ := DataW.trod_int Tryd.underlying3 h2
        obtain ⟨x3, e3, _, _⟩ := DataW.trod_int Tryd.underlying3 h3
        simp [hC1, hC9] at e0 e1 e2 e3
        subst e0 e1 e2 e3
        refine ⟨⟨x0, x1, x2, x3⟩, ?_, ?_, ?_, ?_⟩
        · have := hat 0 (by omega); simpa [Go.Deep.add_add] using this
        · have := hat 1 (by omega); simpa [Go.Deep.add_add] using this
        · have := hat 2 (by omega); simpa [Go.Deep.add_add] using this
        · have := hat 3 (by omega); simpa [Go.Deep.add_add] using this
    have hex : ∀ k, k ≤ len → ∃ l : List TokV, l.length = k ∧ (∀ i, (h : i < l.length) → w.cell? (a.add (i * 4)) = some (.int .i64 l[i].k) ∧ w.cell? (a.add (i * 4 + 1)) = some (.string l[i].t) ∧ w.cell? (a.add (i * 4 + 2)) = some (.int .i64 l[i].n) ∧ w.cell? (a.add (i * 4 + 3)) = some (.int .i64 l[i].p)) := by
      intro k
      induction k with
      | zero => intro _; exact ⟨[], rfl, fun i h => absurd h (by simp)⟩
      | succ k ih =>
        intro hk
        obtain ⟨l, h1, h2⟩ := ih (by omega)
        obtain ⟨c, g0, g1, g2, g3⟩ := hel k (by omega)
        refine ⟨l ++ [c], by simp [h1], fun i hi => ?_⟩
        by_cases e : i < l.length
        · simp only [List.getElem_append_left e]; exact h2 i e
        · simp at hi
          obtain rfl : i = l.length := by omega
          simp only [List.getElem_concat_length]
          rw [h1]; exact ⟨g0, g1, g2, g3⟩
    obtain ⟨l, hlen, hcells⟩ := hex len (Nat.le_refl _)
    refine ⟨some a, len, cap, l, hcs, ⟨fun i hi => ?_⟩, hlen, by omega, hl, fun h => by cases h⟩
    obtain ⟨g0, g1, g2, g3⟩ := hcells i hi
    obtain ⟨b, off, spot⟩ := a
    have hspot : spot = none := by
      have := World.cell?_spot (hcells 0 (by omega)).1
      simpa [Addr.add] using this
    subst hspot
    rw [addr_add] at g0 g1 g2 g3
    exact ⟨b, off, rfl, World.block_lt_of_cell? w _ g0, g0, g1, g2, g3⟩
end
end Go.Proofs.YtplndghcileghaaDoor
