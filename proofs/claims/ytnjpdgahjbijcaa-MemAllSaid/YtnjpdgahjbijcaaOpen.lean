/-
  MEM: what a memory, an access, a row of accesses is, that came in.
-/
import Derived.Test.YtnjpdgahjbijcaaMemF
import Derived.OpenShut
import Derived.ChangeOld
import Derived.ChangeSame
import Derived.Deep.Slices
import Derived.Lib.SmallJoins
namespace Go.Proofs.Ytnjpdgahjbijcaa
open Go.ChangeShapes Go.WideShapes Go.ChangeAt Go.RowKit Go.Deep

section
variable {H : Type} {enc : TypeId × Value → H} {w : World} {base : Nat} {held : Bool}

theorem row_of_trod {fuel : Nat} {cs : List Value} {x : DataW H × List MemPlace} (hf : DataW.trod enc Try.prog w base (fun _ => true) held fuel 22 cs = some x) :
    ∃ a len cap zs, cs = [.slice a len cap] ∧ IsRow .i64 w a len cap zs := by
  rcases open_ints Try.underlying22 Try.underlying3 (by kernel_rfl) hf with ⟨hcs, _⟩ | ⟨a, len, cap, zs, hcs, _, hl, hm, hz, _, hcell, hwz⟩
  · exact ⟨none, 0, 0, [], hcs, .inl ⟨rfl, rfl, rfl, rfl⟩⟩
  · exact ⟨some a, len, cap, zs, hcs, .inr ⟨_, rfl, hl, hm, by simpa using hz, hcell, hwz⟩⟩

theorem open_mem {r : Reach} {b0 : Nat} {v : Value} {d : DataW H} {p : List MemPlace} (hv : Value.okWide Try.prog w r b0 24 v) (h : DataW.Trod enc Try.prog w base (fun _ => true) held 24 v d p) :
    ∃ a len cap zs, v = .agg #[.slice a len cap] ∧ IsRow .i64 w a len cap zs := by
  obtain ⟨cs, rfl, hsz⟩ := okWide_struct Try.underlying24 hv
  have hC : Try.prog.cellsOf 24 = 1 := by kernel_rfl
  obtain ⟨fuel, hf⟩ := h
  obtain ⟨y0, n, _, _, h0⟩ := trod_struct1 Try.underlying24 hf
  obtain ⟨l⟩ := cs
  match l, hsz.trans hC with
  | [c0], _ =>
    have hC2 : Try.prog.cellsOf 22 = 1 := by kernel_rfl
    obtain ⟨a, len, cap, zs, hcs, hrow⟩ := row_of_trod (by simpa [Value.cells, hC2] using h0)
    simp only [List.cons.injEq, and_true] at hcs
    subst hcs
    exact ⟨a, len, cap, zs, rfl, hrow⟩


theorem accs_of_trod2 {fuel : Nat} {cs : List Value} {x : DataW H × List MemPlace} (hf : DataW.trod enc Try.prog w base (fun _ => true) held fuel 36 cs = some x) :
    ∃ a len cap l, cs = [.slice a len cap] ∧ Accs w a l ∧ l.length = len ∧ len ≤ maxLen ∧ len ≤ cap ∧ (a = none → cap = 0) := by
  rcases open_slice Try.underlying36 hf with ⟨hcs, _⟩ | ⟨a, len, cap, m, n, D, Pl, hcs, _, hl, hm, hmm, _, hi⟩
  · exact ⟨none, 0, 0, [], hcs, ⟨fun i h => absurd h (by simp), fun x h => absurd h (by simp)⟩, rfl, by omega, by omega, fun _ => rfl⟩
  · have hC : Try.prog.cellsOf 26 = 4 := by kernel_rfl
    have hC1 : Try.prog.cellsOf 3 = 1 := by kernel_rfl
    have hel : ∀ i, i < len → ∃ c : Acc, w.cell? (a.add (i * 4)) = some (.int .i64 c.k) ∧ w.cell? (a.add (i * 4 + 1)) = some (.int .i64 c.c) ∧ w.cell? (a.add (i * 4 + 2)) = some (.int .i64 c.o) ∧ w.cell? (a.add (i * 4 + 3)) = some (.int .i64 c.n) ∧ In64 c.n := by
      intro i hil
      have him : i < m := by rw [hmm]; simp; omega
      obtain ⟨cs', hc, ht⟩ := hi i him
      rw [hC] at hc
      obtain ⟨_, hlen, hat⟩ := World.cells?_some hc
      obtain ⟨y0, y1, y2, y3, n', _, _, h0, h1, h2, h3⟩ := Go.Joins.trod_struct4 Try.underlying26 ht
      match cs', hlen with
      | [c0, c1, c2, c3], _ =>
        obtain ⟨x0, e0, _, _⟩ := DataW.trod_int Try.underlying3 h0
        obtain ⟨x1, e1, _, _⟩ := DataW.trod_int Try.underlying3 h1
        obtain ⟨x2, e2, _, _⟩ := DataW.trod_int Try.underlying3 h2
        obtain ⟨x3, e3, _, w3⟩ := DataW.trod_int Try.underlying3 h3
        simp [hC1] at e0 e1 e2 e3
        subst e0 e1 e2 e3
        refine ⟨⟨x0, x1, x2, x3⟩, ?_, ?_, ?_, ?_, i64_bd w3⟩
        · have := hat 0 (by omega); simpa [Go.Deep.add_add] using this
        · have := hat 1 (by omega); simpa [Go.Deep.add_add] using this
        · have := hat 2 (by omega); simpa [Go.Deep.add_add] using this
        · have := hat 3 (by omega); simpa [Go.Deep.add_add] using this
    have hex : ∀ k, k ≤ len → ∃ l : List Acc, l.length = k ∧ (∀ i, (h : i < l.length) → w.cell? (a.add (i * 4)) = some (.int .i64 l[i].k) ∧ w.cell? (a.add (i * 4 + 1)) = some (.int .i64 l[i].c) ∧ w.cell? (a.add (i * 4 + 2)) = some (.int .i64 l[i].o) ∧ w.cell? (a.add (i * 4 + 3)) = some (.int .i64 l[i].n)) ∧ ∀ c ∈ l, In64 c.n := by
      intro k
      induction k with
      | zero => intro _; exact ⟨[], rfl, fun i h => absurd h (by simp), fun c h => absurd h (by simp)⟩
      | succ k ih =>
        intro hk
        obtain ⟨l, h1, h2, h3⟩ := ih (by omega)
        obtain ⟨c, g0, g1, g2, g3, g4⟩ := hel k (by omega)
        refine ⟨l ++ [c], by simp [h1], fun i hi => ?_, fun c' hc' => ?_⟩
        · by_cases e : i < l.length
          · simp only [List.getElem_append_left e]; exact h2 i e
          · simp at hi
            obtain rfl : i = l.length := by omega
            simp only [List.getElem_concat_length]
            rw [h1]; exact ⟨g0, g1, g2, g3⟩
        · simp at hc'
          rcases hc' with h | rfl
          · exact h3 c' h
          · exact g4
    obtain ⟨l, hlen, hcells, hr⟩ := hex len (Nat.le_refl _)
    refine ⟨some a, len, cap, l, hcs, ⟨fun i hi => ?_, hr⟩, hlen, by omega, hl, fun h => by cases h⟩
    obtain ⟨g0, g1, g2, g3⟩ := hcells i hi
    obtain ⟨b, off, spot⟩ := a
    have hspot : spot = none := by
      have := World.cell?_spot (hcells 0 (by omega)).1
      simpa [Addr.add] using this
    subst hspot
    rw [addr_add] at g0 g1 g2 g3
    exact ⟨b, off, rfl, World.block_lt_of_cell? w _ g0, g0, g1, g2, g3⟩

end
end Go.Proofs.Ytnjpdgahjbijcaa
