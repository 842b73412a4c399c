/-
  A SLICE OF RECORDS THAT CAME IN (underwood/api.Call). Written by wip/tools/gen/openrec.py.
-/
import Derived.Test.YtedgliaablokcaaStruct
import Derived.Test.YtedgliaablokcaaHistR
import Derived.Test.YtedgliaablokcaaInts
import Derived.OpenShut
import Derived.ChangeOld
import Derived.ChangeSame
import Derived.Deep.Slices
import Derived.Lib.SmallJoins
namespace Go.Proofs.Ytedgliaablokcaa
open Go.ChangeShapes Go.WideShapes Go.ChangeAt Go.RowKit Go.Deep

section
variable {H : Type} {enc : TypeId × Value → H} {w : World} {base : Nat} {held : Bool}
set_option maxRecDepth 100000 in
set_option maxHeartbeats 2000000 in
theorem hcs_of_trod2 {fuel : Nat} {cs : List Value} {x : DataW H × List MemPlace} (hf : DataW.trod enc Try.prog w base (fun _ => true) held fuel 22 cs = some x) :
    ∃ a len cap l, cs = [.slice a len cap] ∧ Hcs w a l ∧ l.length = len ∧ len ≤ maxLen ∧ len ≤ cap ∧ (a = none → cap = 0) := by
  rcases open_slice Try.underlying22 hf with ⟨hcs, _⟩ | ⟨a, len, cap, m, n, D, Pl, hcs, _, hl, hm, hmm, _, hi⟩
  · exact ⟨none, 0, 0, [], hcs, ⟨fun i h => absurd h (by simp)⟩, rfl, by omega, by omega, fun _ => rfl⟩
  · have hC : Try.prog.cellsOf 30 = 10 := by kernel_rfl
    have hCbool : Try.prog.cellsOf 4 = 1 := by kernel_rfl
    have hCint : Try.prog.cellsOf 3 = 1 := by kernel_rfl
    have hS0 : Try.prog.cellsOf 28 = 4 := by kernel_rfl
    have hel : ∀ i, i < len → ∃ c : CallV, w.cell? (a.add (i * 10)) = some (.int .i64 c.who) ∧ w.cell? (a.add (i * 10 + 1)) = some (.int .i64 c.kind) ∧ w.cell? (a.add (i * 10 + 2)) = some (.int .i64 c.obj) ∧ w.cell? (a.add (i * 10 + 3)) = some (.int .i64 c.a) ∧ w.cell? (a.add (i * 10 + 4)) = some (.int .i64 c.b) ∧ w.cell? (a.add (i * 10 + 5)) = some (.int .i64 c.val) ∧ w.cell? (a.add (i * 10 + 6)) = some (.bool c.is) ∧ w.cell? (a.add (i * 10 + 7)) = some (.int .i64 c.first) ∧ w.cell? (a.add (i * 10 + 8)) = some (.int .i64 c.last) ∧ w.cell? (a.add (i * 10 + 9)) = some (.int .i64 c.point) := by
      intro i hil
      have him : i < m := by rw [hmm]; simp; omega
      obtain ⟨cs', hc, ht⟩ := hi i him
      rw [hC] at hc
      obtain ⟨_, hlen, hat⟩ := World.cells?_some hc
      obtain ⟨y0_0, y0_1, y0_2, y0_3, y0_4, y0_5, y0_6, m0, _, h0_0, h0_1, h0_2, h0_3, h0_4, h0_5, h0_6⟩ := trod_structN7 Try.underlying30 ht
      obtain ⟨x0, e0, _, _⟩ := DataW.trod_int Try.underlying3 h0_0
      obtain ⟨y1_0, y1_1, y1_2, y1_3, m1, _, _, h1_0, h1_1, h1_2, h1_3⟩ := Go.Joins.trod_struct4 Try.underlying28 h0_1
      obtain ⟨x1, e1, _, _⟩ := DataW.trod_int Try.underlying3 h1_0
      obtain ⟨x2, e2, _, _⟩ := DataW.trod_int Try.underlying3 h1_1
      obtain ⟨x3, e3, _, _⟩ := DataW.trod_int Try.underlying3 h1_2
      obtain ⟨x4, e4, _, _⟩ := DataW.trod_int Try.underlying3 h1_3
      obtain ⟨x5, e5, _, _⟩ := DataW.trod_int Try.underlying3 h0_2
      obtain ⟨x6, e6, _⟩ := DataW.trod_bool Try.underlying4 h0_3
      obtain ⟨x7, e7, _, _⟩ := DataW.trod_int Try.underlying3 h0_4
      obtain ⟨x8, e8, _, _⟩ := DataW.trod_int Try.underlying3 h0_5
      obtain ⟨x9, e9, _, _⟩ := DataW.trod_int Try.underlying3 h0_6
      match cs', hlen with
      | [c0, c1, c2, c3, c4, c5, c6, c7, c8, c9], _ =>
        simp [hCbool, hCint, hS0] at e0 e1 e2 e3 e4 e5 e6 e7 e8 e9
        subst e0 e1 e2 e3 e4 e5 e6 e7 e8 e9
        refine ⟨⟨x0, x1, x2, x3, x4, x5, x6, x7, x8, x9⟩, ?_, ?_, ?_, ?_, ?_, ?_, ?_, ?_, ?_, ?_⟩
        · have := hat 0 (by omega); simpa [Go.Deep.add_add] using this
        · have := hat 1 (by omega); simpa [Go.Deep.add_add] using this
        · have := hat 2 (by omega); simpa [Go.Deep.add_add] using this
        · have := hat 3 (by omega); simpa [Go.Deep.add_add] using this
        · have := hat 4 (by omega); simpa [Go.Deep.add_add] using this
        · have := hat 5 (by omega); simpa [Go.Deep.add_add] using this
        · have := hat 6 (by omega); simpa [Go.Deep.add_add] using this
        · have := hat 7 (by omega); simpa [Go.Deep.add_add] using this
        · have := hat 8 (by omega); simpa [Go.Deep.add_add] using this
        · have := hat 9 (by omega); simpa [Go.Deep.add_add] using this
    have hex : ∀ k, k ≤ len → ∃ l : List CallV, l.length = k ∧ (∀ i, (h : i < l.length) → w.cell? (a.add (i * 10)) = some (.int .i64 l[i].who) ∧ w.cell? (a.add (i * 10 + 1)) = some (.int .i64 l[i].kind) ∧ w.cell? (a.add (i * 10 + 2)) = some (.int .i64 l[i].obj) ∧ w.cell? (a.add (i * 10 + 3)) = some (.int .i64 l[i].a) ∧ w.cell? (a.add (i * 10 + 4)) = some (.int .i64 l[i].b) ∧ w.cell? (a.add (i * 10 + 5)) = some (.int .i64 l[i].val) ∧ w.cell? (a.add (i * 10 + 6)) = some (.bool l[i].is) ∧ w.cell? (a.add (i * 10 + 7)) = some (.int .i64 l[i].first) ∧ w.cell? (a.add (i * 10 + 8)) = some (.int .i64 l[i].last) ∧ w.cell? (a.add (i * 10 + 9)) = some (.int .i64 l[i].point)) := by
      intro k
      induction k with
      | zero => intro _; exact ⟨[], rfl, fun i h => absurd h (by simp)⟩
      | succ k ih =>
        intro hk
        obtain ⟨l, h1, h2⟩ := ih (by omega)
        obtain ⟨c, hg⟩ := hel k (by omega)
        refine ⟨l ++ [c], by simp [h1], fun i hi => ?_⟩
        by_cases e : i < l.length
        · simp only [List.getElem_append_left e]; exact h2 i e
        · simp at hi
          obtain rfl : i = l.length := by omega
          simp only [List.getElem_concat_length]
          rw [h1]; exact hg
    obtain ⟨l, hlen, hcells⟩ := hex len (Nat.le_refl _)
    refine ⟨some a, len, cap, l, hcs, ⟨fun i hi => ?_⟩, hlen, by omega, hl, fun h => by cases h⟩
    obtain ⟨g0, g1, g2, g3, g4, g5, g6, g7, g8, g9⟩ := hcells i hi
    obtain ⟨b, off, spot⟩ := a
    have hspot : spot = none := by
      have := World.cell?_spot (hcells 0 (by omega)).1
      simpa [Addr.add] using this
    subst hspot
    rw [addr_add] at g0 g1 g2 g3 g4 g5 g6 g7 g8 g9
    exact ⟨b, off, rfl, World.block_lt_of_cell? w _ g0, g0, g1, g2, g3, g4, g5, g6, g7, g8, g9⟩
end
end Go.Proofs.Ytedgliaablokcaa
