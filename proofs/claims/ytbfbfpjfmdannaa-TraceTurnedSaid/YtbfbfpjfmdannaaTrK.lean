/-
  ROWS OF RECORDS IN MEMORY (underwood/api.Pick). Written by wip/tools/gen/rec.py.
-/
import Derived.Test.YtbfbfpjfmdannaaRows
import Derived.ProofKit
import Derived.Test.YtbfbfpjfmdannaaBlk
import Derived.Deep.QuietTactic
import Derived.BigQuiet
import Derived.LoopTactic
import Derived.Laws.StructEq
namespace Go.Proofs.Ytbfbfpjfmdannaa
open Go.ChangeShapes Go.WideShapes Go.ChangeAt Go.RowKit

structure PkV where
  kind : Int
  a : Int
  b : Int
deriving DecidableEq
def PkV.cells (t : PkV) : List Value := [.int .i64 t.kind, .int .i64 t.a, .int .i64 t.b]
def pkV (ts : List PkV) : List Value := ts.flatMap PkV.cells
theorem pkV_length : ∀ ts : List PkV, (pkV ts).length = ts.length * 3
  | [] => rfl
  | t :: ts => by
    have := pkV_length ts
    unfold pkV at this ⊢
    simp only [List.flatMap_cons, List.length_append, List.length_cons, this]
    show 3 + _ = _
    omega
theorem pkV_snoc (ts : List PkV) (t : PkV) : pkV (ts ++ [t]) = pkV ts ++ t.cells := by
  unfold pkV; simp
theorem pkV_at : ∀ (ts : List PkV) (i j : Nat) (h : i < ts.length), j < 3 → (pkV ts)[i * 3 + j]? = (ts[i].cells)[j]?
  | t :: ts, 0, j, _, hj => by
    show (t.cells ++ pkV ts)[0 * 3 + j]? = _
    rw [Nat.zero_mul, Nat.zero_add, List.getElem?_append_left (by show j < 3; exact hj)]
    rfl
  | t :: ts, i + 1, j, h, hj => by
    show (t.cells ++ pkV ts)[(i + 1) * 3 + j]? = _
    rw [List.getElem?_append_right (by show 3 ≤ _; omega)]
    have e : (i + 1) * 3 + j - t.cells.length = i * 3 + j := by show _ - 3 = _; omega
    rw [e, pkV_at ts i j (by simpa using h) hj]
    rfl

/-- one of them lies at (b, o) -/
def PkAt (w : World) (b o : Nat) (t : PkV) : Prop := w.cell? ⟨b, o, none⟩ = some (.int .i64 t.kind) ∧ w.cell? ⟨b, o + 1, none⟩ = some (.int .i64 t.a) ∧ w.cell? ⟨b, o + 2, none⟩ = some (.int .i64 t.b)

theorem PkAt.later {w w1 : World} {b o : Nat} {t : PkV} (h : PkAt w b o t) (hb : Below w.heap.size w w1) (hl : b < w.heap.size) : PkAt w1 b o t := by
  obtain ⟨g0, g1, g2⟩ := h
  exact ⟨by rw [hb.cell (p := ⟨b, _, none⟩) hl]; exact g0, by rw [hb.cell (p := ⟨b, _, none⟩) hl]; exact g1, by rw [hb.cell (p := ⟨b, _, none⟩) hl]; exact g2⟩

/-- these lie behind p -/
structure Pks (w : World) (p : Option Addr) (ts : List PkV) : Prop where
  at_ : ∀ i, (h : i < ts.length) → ∃ b off, p = some ⟨b, off, none⟩ ∧ b < w.heap.size ∧ PkAt w b (off + i * 3) ts[i]

theorem Pks.later {w w1 : World} {p : Option Addr} {ts : List PkV} (h : Pks w p ts) (hb : Below w.heap.size w w1) : Pks w1 p ts :=
  ⟨fun i hi => by
    obtain ⟨b, off, h1, h2, h3⟩ := h.at_ i hi
    exact ⟨b, off, h1, Nat.lt_of_lt_of_le h2 hb.size, h3.later hb h2⟩⟩
theorem Pks.nil (w : World) (p : Option Addr) : Pks w p [] := ⟨fun i h => absurd h (by simp)⟩
theorem Pks.drawn {w : World} {p : Option Addr} {ts : List PkV} (h : Pks w p ts) (n : Nat) : Pks (w.drewN n) p ts := ⟨h.at_⟩
theorem Pks.of_cells {w : World} {p : Option Addr} {ts : List PkV} (h : Cells w p (pkV ts)) : Pks w p ts := by
  refine ⟨fun i hi => ?_⟩
  have hl := pkV_length ts
  obtain ⟨b, off, h1, h2, h3⟩ := h.opened (by rw [hl]; omega)
  refine ⟨b, off, h1, h2, ?_, ?_, ?_⟩
  · exact h3 (i * 3) _ (by have := pkV_at ts i 0 hi (by omega); simpa [PkV.cells] using this)
  · exact h3 (i * 3 + 1) _ (by have := pkV_at ts i 1 hi (by omega); simpa [PkV.cells] using this)
  · exact h3 (i * 3 + 2) _ (by have := pkV_at ts i 2 hi (by omega); simpa [PkV.cells] using this)
theorem Pks.of_own {w : World} {base : Nat} {e : TypeId} {p : Option Addr} {n cap : Nat} {ts : List PkV} (h : w.ownsRow base e 3 (.slice p n cap) n (pkV ts)) : Pks w p ts :=
  .of_cells (Cells.of_own h)
/-- its cells behind p -/
theorem Pks.opened {w : World} {p : Option Addr} {ts : List PkV} (h : Pks w p ts) (h0 : 0 < ts.length) : ∃ b off, p = some ⟨b, off, none⟩ ∧ b < w.heap.size ∧ ∀ i (hi : i < ts.length), PkAt w b (off + i * 3) ts[i] := by
  obtain ⟨b, off, h1, h2, _⟩ := h.at_ 0 h0
  refine ⟨b, off, h1, h2, fun i hi => ?_⟩
  obtain ⟨b', off', g1, _, g3⟩ := h.at_ i hi
  rw [h1] at g1
  simp only [Option.some.injEq, Addr.mk.injEq, and_true] at g1
  obtain ⟨rfl, rfl⟩ := g1
  exact g3

theorem pkGuard : Try.prog.eqGuardType Try.prog.depth 55 = false := by kernel_rfl
theorem pkHeld : Try.prog.stoodInHeld 55 = false := by kernel_rfl
theorem pkFields : Try.prog.underlying 55 = some (.struct (Try.prog.fieldsOf 55)) := by kernel_rfl

theorem pkEq (a b : PkV) (w : World) : (Op.equalIn 10000 55 (.agg #[.int .i64 a.kind, .int .i64 a.a, .int .i64 a.b]) (.agg #[.int .i64 b.kind, .int .i64 b.a, .int .i64 b.b])).run Try.prog w = .ok (decide (a = b)) w := by
  rw [run_equalIn_struct w 9999 _ _ _ pkFields pkHeld]
  obtain ⟨x0, x1, x2⟩ := a
  obtain ⟨y0, y1, y2⟩ := b
  simp [go_sem, part, Program.fieldsOf, Try.underlying55]
  by_cases h0 : x0 = y0
  case neg => simp [h0]
  by_cases h1 : x1 = y1
  case neg => simp [h0, h1]
  by_cases h2 : x2 = y2
  case neg => simp [h0, h1, h2]
  simp [h0, h1, h2]

end Go.Proofs.Ytbfbfpjfmdannaa
