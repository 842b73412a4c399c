/-
  A SLICE OF RECORDS THAT CAME IN (underwood/api.Split). Written by wip/tools/gen/openrec.py.
-/
import Derived.Test.YtjpimaiogdckpaaStruct
import Derived.Test.YtjpimaiogdckpaaSpR
import Derived.Test.YtjpimaiogdckpaaInts
import Derived.OpenShut
import Derived.ChangeOld
import Derived.ChangeSame
import Derived.Deep.Slices
import Derived.Lib.SmallJoins
namespace Go.Proofs.Ytjpimaiogdckpaa
open Go.ChangeShapes Go.WideShapes Go.ChangeAt Go.RowKit Go.Deep

section
variable {H : Type} {enc : TypeId × Value → H} {w : World} {base : Nat} {held : Bool}
set_option maxRecDepth 100000 in
set_option maxHeartbeats 2000000 in
theorem sds_of_trod2 {fuel : Nat} {cs : List Value} {x : DataW H × List MemPlace} (hf : DataW.trod enc Try.prog w base (fun _ => true) held fuel 22 cs = some x) :
    ∃ a len cap l, cs = [.slice a len cap] ∧ Sds w a l ∧ l.length = len ∧ len ≤ maxLen ∧ len ≤ cap ∧ (a = none → cap = 0) := by
  rcases open_slice Try.underlying22 hf with ⟨hcs, _⟩ | ⟨a, len, cap, m, n, D, Pl, hcs, _, hl, hm, hmm, _, hi⟩
  · exact ⟨none, 0, 0, [], hcs, ⟨fun i h => absurd h (by simp)⟩, rfl, by omega, by omega, fun _ => rfl⟩
  · have hC : Try.prog.cellsOf 37 = 5 := by kernel_rfl
    have hCint : Try.prog.cellsOf 3 = 1 := by kernel_rfl

    have hel : ∀ i, i < len → ∃ c : SplV, w.cell? (a.add (i * 5)) = some (.int .i64 c.kind) ∧ w.cell? (a.add (i * 5 + 1)) = some (.int .i64 c.a) ∧ w.cell? (a.add (i * 5 + 2)) = some (.int .i64 c.b) ∧ w.cell? (a.add (i * 5 + 3)) = some (.int .i64 c.c) ∧ w.cell? (a.add (i * 5 + 4)) = some (.int .i64 c.d) := by
      intro i hil
      have him : i < m := by rw [hmm]; simp; omega
      obtain ⟨cs', hc, ht⟩ := hi i him
      rw [hC] at hc
      obtain ⟨_, hlen, hat⟩ := World.cells?_some hc
      obtain ⟨y0_0, y0_1, y0_2, y0_3, y0_4, m0, _, h0_0, h0_1, h0_2, h0_3, h0_4⟩ := trod_structN5 Try.underlying37 ht
      obtain ⟨x0, e0, _, _⟩ := DataW.trod_int Try.underlying3 h0_0
      obtain ⟨x1, e1, _, _⟩ := DataW.trod_int Try.underlying3 h0_1
      obtain ⟨x2, e2, _, _⟩ := DataW.trod_int Try.underlying3 h0_2
      obtain ⟨x3, e3, _, _⟩ := DataW.trod_int Try.underlying3 h0_3
      obtain ⟨x4, e4, _, _⟩ := DataW.trod_int Try.underlying3 h0_4
      match cs', hlen with
      | [c0, c1, c2, c3, c4], _ =>
        simp [hCint] at e0 e1 e2 e3 e4
        subst e0 e1 e2 e3 e4
        refine ⟨⟨x0, x1, x2, x3, x4⟩, ?_, ?_, ?_, ?_, ?_⟩
        · have := hat 0 (by omega); simpa [Go.Deep.add_add] using this
        · have := hat 1 (by omega); simpa [Go.Deep.add_add] using this
        · have := hat 2 (by omega); simpa [Go.Deep.add_add] using this
        · have := hat 3 (by omega); simpa [Go.Deep.add_add] using this
        · have := hat 4 (by omega); simpa [Go.Deep.add_add] using this
    have hex : ∀ k, k ≤ len → ∃ l : List SplV, l.length = k ∧ (∀ i, (h : i < l.length) → w.cell? (a.add (i * 5)) = some (.int .i64 l[i].kind) ∧ w.cell? (a.add (i * 5 + 1)) = some (.int .i64 l[i].a) ∧ w.cell? (a.add (i * 5 + 2)) = some (.int .i64 l[i].b) ∧ w.cell? (a.add (i * 5 + 3)) = some (.int .i64 l[i].c) ∧ w.cell? (a.add (i * 5 + 4)) = some (.int .i64 l[i].d)) := by
      intro k
      induction k with
      | zero => intro _; exact ⟨[], rfl, fun i h => absurd h (by simp)⟩
      | succ k ih =>
        intro hk
        obtain ⟨l, h1, h2⟩ := ih (by omega)
        obtain ⟨c, hg⟩ := hel k (by omega)
        refine ⟨l ++ [c], by simp [h1], fun i hi => ?_⟩
        by_cases e : i < l.length
        · simp only [List.getElem_append_left e]; exact h2 i e
        · simp at hi
          obtain rfl : i = l.length := by omega
          simp only [List.getElem_concat_length]
          rw [h1]; exact hg
    obtain ⟨l, hlen, hcells⟩ := hex len (Nat.le_refl _)
    refine ⟨some a, len, cap, l, hcs, ⟨fun i hi => ?_⟩, hlen, by omega, hl, fun h => by cases h⟩
    obtain ⟨g0, g1, g2, g3, g4⟩ := hcells i hi
    obtain ⟨b, off, spot⟩ := a
    have hspot : spot = none := by
      have := World.cell?_spot (hcells 0 (by omega)).1
      simpa [Addr.add] using this
    subst hspot
    rw [addr_add] at g0 g1 g2 g3 g4
    exact ⟨b, off, rfl, World.block_lt_of_cell? w _ g0, g0, g1, g2, g3, g4⟩
end
end Go.Proofs.Ytjpimaiogdckpaa
