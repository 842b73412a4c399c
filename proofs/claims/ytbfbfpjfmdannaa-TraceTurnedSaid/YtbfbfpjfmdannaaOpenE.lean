/-
  A SLICE OF RECORDS THAT CAME IN (underwood/api.Event). Written by wip/tools/gen/openrec.py.
-/
import Derived.Test.YtbfbfpjfmdannaaStruct
import Derived.Test.YtbfbfpjfmdannaaTrR
import Derived.Test.YtbfbfpjfmdannaaTrP
import Derived.Test.YtbfbfpjfmdannaaInts
import Derived.OpenShut
import Derived.ChangeOld
import Derived.ChangeSame
import Derived.Deep.Slices
import Derived.Lib.SmallJoins
namespace Go.Proofs.Ytbfbfpjfmdannaa
open Go.ChangeShapes Go.WideShapes Go.ChangeAt Go.RowKit Go.Deep

theorem in_wf {x : Int} (h : (Lit.int .i64 x).wf = true) : In64 x := by unfold In64; simpa [Lit.wf, IntKind.min, IntKind.max, IntKind.signed, IntKind.bits] using h

section
variable {H : Type} {enc : TypeId × Value → H} {w : World} {base : Nat} {held : Bool}
set_option maxRecDepth 100000 in
set_option maxHeartbeats 2000000 in
theorem evsr_of_trod2 {fuel : Nat} {cs : List Value} {x : DataW H × List MemPlace} (hf : DataW.trod enc Try.prog w base (fun _ => true) held fuel 22 cs = some x) :
    ∃ a len cap l, cs = [.slice a len cap] ∧ EvsR w a l ∧ l.length = len ∧ len ≤ maxLen ∧ len ≤ cap ∧ (a = none → cap = 0) := by
  rcases open_slice Try.underlying22 hf with ⟨hcs, _⟩ | ⟨a, len, cap, m, n, D, Pl, hcs, _, hl, hm, hmm, _, hi⟩
  · exact ⟨none, 0, 0, [], hcs, ⟨⟨fun i h => absurd h (by simp)⟩, fun e he => absurd he (by simp)⟩, rfl, by omega, by omega, fun _ => rfl⟩
  · have hC : Try.prog.cellsOf 48 = 8 := by kernel_rfl
    have hCbool : Try.prog.cellsOf 4 = 1 := by kernel_rfl
    have hCint : Try.prog.cellsOf 3 = 1 := by kernel_rfl
    have hS0 : Try.prog.cellsOf 44 = 4 := by kernel_rfl
    have hS1 : Try.prog.cellsOf 46 = 2 := by kernel_rfl
    have hel : ∀ i, i < len → ∃ c : EvV, w.cell? (a.add (i * 8)) = some (.int .i64 c.worker) ∧ w.cell? (a.add (i * 8 + 1)) = some (.int .i64 c.seat) ∧ w.cell? (a.add (i * 8 + 2)) = some (.int .i64 c.kind) ∧ w.cell? (a.add (i * 8 + 3)) = some (.int .i64 c.cell) ∧ w.cell? (a.add (i * 8 + 4)) = some (.int .i64 c.old) ∧ w.cell? (a.add (i * 8 + 5)) = some (.int .i64 c.new) ∧ w.cell? (a.add (i * 8 + 6)) = some (.int .i64 c.val) ∧ w.cell? (a.add (i * 8 + 7)) = some (.bool c.ok) ∧ c.In := by
      intro i hil
      have him : i < m := by rw [hmm]; simp; omega
      obtain ⟨cs', hc, ht⟩ := hi i him
      rw [hC] at hc
      obtain ⟨_, hlen, hat⟩ := World.cells?_some hc
      obtain ⟨y0_0, y0_1, y0_2, y0_3, m0, _, _, h0_0, h0_1, h0_2, h0_3⟩ := Go.Joins.trod_struct4 Try.underlying48 ht
      obtain ⟨x0, e0, _, r0⟩ := DataW.trod_int Try.underlying3 h0_0
      obtain ⟨x1, e1, _, r1⟩ := DataW.trod_int Try.underlying3 h0_1
      obtain ⟨y1_0, y1_1, y1_2, y1_3, m1, _, _, h1_0, h1_1, h1_2, h1_3⟩ := Go.Joins.trod_struct4 Try.underlying44 h0_2
      obtain ⟨x2, e2, _, r2⟩ := DataW.trod_int Try.underlying3 h1_0
      obtain ⟨x3, e3, _, r3⟩ := DataW.trod_int Try.underlying3 h1_1
      obtain ⟨x4, e4, _, r4⟩ := DataW.trod_int Try.underlying3 h1_2
      obtain ⟨x5, e5, _, r5⟩ := DataW.trod_int Try.underlying3 h1_3
      obtain ⟨y2_0, y2_1, m2, _, _, h2_0, h2_1⟩ := trod_struct2 Try.underlying46 h0_3
      obtain ⟨x6, e6, _, r6⟩ := DataW.trod_int Try.underlying3 h2_0
      obtain ⟨x7, e7, _⟩ := DataW.trod_bool Try.underlying4 h2_1
      match cs', hlen with
      | [c0, c1, c2, c3, c4, c5, c6, c7], _ =>
        simp [hCbool, hCint, hS0, hS1] at e0 e1 e2 e3 e4 e5 e6 e7
        subst e0 e1 e2 e3 e4 e5 e6 e7
        refine ⟨⟨x0, x1, x2, x3, x4, x5, x6, x7⟩, ?_, ?_, ?_, ?_, ?_, ?_, ?_, ?_, ⟨in_wf r0, in_wf r1, in_wf r2, in_wf r3, in_wf r4, in_wf r5, in_wf r6⟩⟩
        · have := hat 0 (by omega); simpa [Go.Deep.add_add] using this
        · have := hat 1 (by omega); simpa [Go.Deep.add_add] using this
        · have := hat 2 (by omega); simpa [Go.Deep.add_add] using this
        · have := hat 3 (by omega); simpa [Go.Deep.add_add] using this
        · have := hat 4 (by omega); simpa [Go.Deep.add_add] using this
        · have := hat 5 (by omega); simpa [Go.Deep.add_add] using this
        · have := hat 6 (by omega); simpa [Go.Deep.add_add] using this
        · have := hat 7 (by omega); simpa [Go.Deep.add_add] using this
    have hex : ∀ k, k ≤ len → ∃ l : List EvV, l.length = k ∧ (∀ i, (h : i < l.length) → w.cell? (a.add (i * 8)) = some (.int .i64 l[i].worker) ∧ w.cell? (a.add (i * 8 + 1)) = some (.int .i64 l[i].seat) ∧ w.cell? (a.add (i * 8 + 2)) = some (.int .i64 l[i].kind) ∧ w.cell? (a.add (i * 8 + 3)) = some (.int .i64 l[i].cell) ∧ w.cell? (a.add (i * 8 + 4)) = some (.int .i64 l[i].old) ∧ w.cell? (a.add (i * 8 + 5)) = some (.int .i64 l[i].new) ∧ w.cell? (a.add (i * 8 + 6)) = some (.int .i64 l[i].val) ∧ w.cell? (a.add (i * 8 + 7)) = some (.bool l[i].ok) ∧ l[i].In) := by
      intro k
      induction k with
      | zero => intro _; exact ⟨[], rfl, fun i h => absurd h (by simp)⟩
      | succ k ih =>
        intro hk
        obtain ⟨l, h1, h2⟩ := ih (by omega)
        obtain ⟨c, hg⟩ := hel k (by omega)
        refine ⟨l ++ [c], by simp [h1], fun i hi => ?_⟩
        by_cases e : i < l.length
        · simp only [List.getElem_append_left e]; exact h2 i e
        · simp at hi
          obtain rfl : i = l.length := by omega
          simp only [List.getElem_concat_length]
          rw [h1]; exact hg
    obtain ⟨l, hlen, hcells⟩ := hex len (Nat.le_refl _)
    refine ⟨some a, len, cap, l, hcs, ⟨⟨fun i hi => ?_⟩, fun e he => by obtain ⟨i, hi, rfl⟩ := List.mem_iff_getElem.1 he; exact (hcells i hi).2.2.2.2.2.2.2.2⟩, hlen, by omega, hl, fun h => by cases h⟩
    obtain ⟨g0, g1, g2, g3, g4, g5, g6, g7, _⟩ := hcells i hi
    obtain ⟨b, off, spot⟩ := a
    have hspot : spot = none := by
      have := World.cell?_spot (hcells 0 (by omega)).1
      simpa [Addr.add] using this
    subst hspot
    rw [addr_add] at g0 g1 g2 g3 g4 g5 g6 g7
    exact ⟨b, off, rfl, World.block_lt_of_cell? w _ g0, g0, g1, g2, g3, g4, g5, g6, g7⟩
end
end Go.Proofs.Ytbfbfpjfmdannaa
