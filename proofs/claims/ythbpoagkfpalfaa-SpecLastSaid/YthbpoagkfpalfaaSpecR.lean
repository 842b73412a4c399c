/-
  ROWS OF RECORDS IN MEMORY (underwood/api.Op). Written by wip/tools/gen/rec.py.
-/
import Derived.Test.YthbpoagkfpalfaaRows
import Derived.ProofKit
import Derived.Test.YthbpoagkfpalfaaBlk
import Derived.Deep.QuietTactic
import Derived.BigQuiet
import Derived.LoopTactic
import Derived.Laws.StructEq
namespace Go.Proofs.Ythbpoagkfpalfaa
open Go.ChangeShapes Go.WideShapes Go.ChangeAt Go.RowKit

structure OpV where
  kind : Int
  obj : Int
  a : Int
  b : Int
deriving DecidableEq
def OpV.cells (t : OpV) : List Value := [.int .i64 t.kind, .int .i64 t.obj, .int .i64 t.a, .int .i64 t.b]
def odV (ts : List OpV) : List Value := ts.flatMap OpV.cells
theorem odV_length : ∀ ts : List OpV, (odV ts).length = ts.length * 4
  | [] => rfl
  | t :: ts => by
    have := odV_length ts
    unfold odV at this ⊢
    simp only [List.flatMap_cons, List.length_append, List.length_cons, this]
    show 4 + _ = _
    omega
theorem odV_snoc (ts : List OpV) (t : OpV) : odV (ts ++ [t]) = odV ts ++ t.cells := by
  unfold odV; simp
theorem odV_at : ∀ (ts : List OpV) (i j : Nat) (h : i < ts.length), j < 4 → (odV ts)[i * 4 + j]? = (ts[i].cells)[j]?
  | t :: ts, 0, j, _, hj => by
    show (t.cells ++ odV ts)[0 * 4 + j]? = _
    rw [Nat.zero_mul, Nat.zero_add, List.getElem?_append_left (by show j < 4; exact hj)]
    rfl
  | t :: ts, i + 1, j, h, hj => by
    show (t.cells ++ odV ts)[(i + 1) * 4 + j]? = _
    rw [List.getElem?_append_right (by show 4 ≤ _; omega)]
    have e : (i + 1) * 4 + j - t.cells.length = i * 4 + j := by show _ - 4 = _; omega
    rw [e, odV_at ts i j (by simpa using h) hj]
    rfl

/-- one of them lies at (b, o) -/
def OdAt (w : World) (b o : Nat) (t : OpV) : Prop := w.cell? ⟨b, o, none⟩ = some (.int .i64 t.kind) ∧ w.cell? ⟨b, o + 1, none⟩ = some (.int .i64 t.obj) ∧ w.cell? ⟨b, o + 2, none⟩ = some (.int .i64 t.a) ∧ w.cell? ⟨b, o + 3, none⟩ = some (.int .i64 t.b)

theorem OdAt.later {w w1 : World} {b o : Nat} {t : OpV} (h : OdAt w b o t) (hb : Below w.heap.size w w1) (hl : b < w.heap.size) : OdAt w1 b o t := by
  obtain ⟨g0, g1, g2, g3⟩ := h
  exact ⟨by rw [hb.cell (p := ⟨b, _, none⟩) hl]; exact g0, by rw [hb.cell (p := ⟨b, _, none⟩) hl]; exact g1, by rw [hb.cell (p := ⟨b, _, none⟩) hl]; exact g2, by rw [hb.cell (p := ⟨b, _, none⟩) hl]; exact g3⟩

/-- these lie behind p -/
structure Ods (w : World) (p : Option Addr) (ts : List OpV) : Prop where
  at_ : ∀ i, (h : i < ts.length) → ∃ b off, p = some ⟨b, off, none⟩ ∧ b < w.heap.size ∧ OdAt w b (off + i * 4) ts[i]

theorem Ods.later {w w1 : World} {p : Option Addr} {ts : List OpV} (h : Ods w p ts) (hb : Below w.heap.size w w1) : Ods w1 p ts :=
  ⟨fun i hi => by
    obtain ⟨b, off, h1, h2, h3⟩ := h.at_ i hi
    exact ⟨b, off, h1, Nat.lt_of_lt_of_le h2 hb.size, h3.later hb h2⟩⟩
theorem Ods.nil (w : World) (p : Option Addr) : Ods w p [] := ⟨fun i h => absurd h (by simp)⟩
theorem Ods.drawn {w : World} {p : Option Addr} {ts : List OpV} (h : Ods w p ts) (n : Nat) : Ods (w.drewN n) p ts := ⟨h.at_⟩
theorem Ods.of_cells {w : World} {p : Option Addr} {ts : List OpV} (h : Cells w p (odV ts)) : Ods w p ts := by
  refine ⟨fun i hi => ?_⟩
  have hl := odV_length ts
  obtain ⟨b, off, h1, h2, h3⟩ := h.opened (by rw [hl]; omega)
  refine ⟨b, off, h1, h2, ?_, ?_, ?_, ?_⟩
  · exact h3 (i * 4) _ (by have := odV_at ts i 0 hi (by omega); simpa [OpV.cells] using this)
  · exact h3 (i * 4 + 1) _ (by have := odV_at ts i 1 hi (by omega); simpa [OpV.cells] using this)
  · exact h3 (i * 4 + 2) _ (by have := odV_at ts i 2 hi (by omega); simpa [OpV.cells] using this)
  · exact h3 (i * 4 + 3) _ (by have := odV_at ts i 3 hi (by omega); simpa [OpV.cells] using this)
theorem Ods.of_own {w : World} {base : Nat} {e : TypeId} {p : Option Addr} {n cap : Nat} {ts : List OpV} (h : w.ownsRow base e 4 (.slice p n cap) n (odV ts)) : Ods w p ts :=
  .of_cells (Cells.of_own h)
/-- its cells behind p -/
theorem Ods.opened {w : World} {p : Option Addr} {ts : List OpV} (h : Ods w p ts) (h0 : 0 < ts.length) : ∃ b off, p = some ⟨b, off, none⟩ ∧ b < w.heap.size ∧ ∀ i (hi : i < ts.length), OdAt w b (off + i * 4) ts[i] := by
  obtain ⟨b, off, h1, h2, _⟩ := h.at_ 0 h0
  refine ⟨b, off, h1, h2, fun i hi => ?_⟩
  obtain ⟨b', off', g1, _, g3⟩ := h.at_ i hi
  rw [h1] at g1
  simp only [Option.some.injEq, Addr.mk.injEq, and_true] at g1
  obtain ⟨rfl, rfl⟩ := g1
  exact g3

theorem odGuard : Try.prog.eqGuardType Try.prog.depth 26 = false := by kernel_rfl
theorem odHeld : Try.prog.stoodInHeld 26 = false := by kernel_rfl
theorem odFields : Try.prog.underlying 26 = some (.struct (Try.prog.fieldsOf 26)) := by kernel_rfl

theorem odEq (a b : OpV) (w : World) : (Op.equalIn 10000 26 (.agg #[.int .i64 a.kind, .int .i64 a.obj, .int .i64 a.a, .int .i64 a.b]) (.agg #[.int .i64 b.kind, .int .i64 b.obj, .int .i64 b.a, .int .i64 b.b])).run Try.prog w = .ok (decide (a = b)) w := by
  rw [run_equalIn_struct w 9999 _ _ _ odFields odHeld]
  obtain ⟨x0, x1, x2, x3⟩ := a
  obtain ⟨y0, y1, y2, y3⟩ := b
  simp [go_sem, part, Program.fieldsOf, Try.underlying26]
  by_cases h0 : x0 = y0
  case neg => simp [h0]
  by_cases h1 : x1 = y1
  case neg => simp [h0, h1]
  by_cases h2 : x2 = y2
  case neg => simp [h0, h1, h2]
  by_cases h3 : x3 = y3
  case neg => simp [h0, h1, h2, h3]
  simp [h0, h1, h2, h3]

end Go.Proofs.Ythbpoagkfpalfaa
