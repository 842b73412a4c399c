/-
  ROWS OF RECORDS IN MEMORY (underwood/api.Split). Written by wip/tools/gen/rec.py.
-/
import Derived.Test.YtjpimaiogdckpaaRows
import Derived.ProofKit
import Derived.Test.YtjpimaiogdckpaaBlk
import Derived.Deep.QuietTactic
import Derived.BigQuiet
import Derived.LoopTactic
import Derived.Laws.StructEq
namespace Go.Proofs.Ytjpimaiogdckpaa
open Go.ChangeShapes Go.WideShapes Go.ChangeAt Go.RowKit

structure SplV where
  kind : Int
  a : Int
  b : Int
  c : Int
  d : Int
deriving DecidableEq
def SplV.cells (t : SplV) : List Value := [.int .i64 t.kind, .int .i64 t.a, .int .i64 t.b, .int .i64 t.c, .int .i64 t.d]
def sdV (ts : List SplV) : List Value := ts.flatMap SplV.cells
theorem sdV_length : ∀ ts : List SplV, (sdV ts).length = ts.length * 5
  | [] => rfl
  | t :: ts => by
    have := sdV_length ts
    unfold sdV at this ⊢
    simp only [List.flatMap_cons, List.length_append, List.length_cons, this]
    show 5 + _ = _
    omega
theorem sdV_snoc (ts : List SplV) (t : SplV) : sdV (ts ++ [t]) = sdV ts ++ t.cells := by
  unfold sdV; simp
theorem sdV_at : ∀ (ts : List SplV) (i j : Nat) (h : i < ts.length), j < 5 → (sdV ts)[i * 5 + j]? = (ts[i].cells)[j]?
  | t :: ts, 0, j, _, hj => by
    show (t.cells ++ sdV ts)[0 * 5 + j]? = _
    rw [Nat.zero_mul, Nat.zero_add, List.getElem?_append_left (by show j < 5; exact hj)]
    rfl
  | t :: ts, i + 1, j, h, hj => by
    show (t.cells ++ sdV ts)[(i + 1) * 5 + j]? = _
    rw [List.getElem?_append_right (by show 5 ≤ _; omega)]
    have e : (i + 1) * 5 + j - t.cells.length = i * 5 + j := by show _ - 5 = _; omega
    rw [e, sdV_at ts i j (by simpa using h) hj]
    rfl

/-- one of them lies at (b, o) -/
def SdAt (w : World) (b o : Nat) (t : SplV) : Prop := w.cell? ⟨b, o, none⟩ = some (.int .i64 t.kind) ∧ w.cell? ⟨b, o + 1, none⟩ = some (.int .i64 t.a) ∧ w.cell? ⟨b, o + 2, none⟩ = some (.int .i64 t.b) ∧ w.cell? ⟨b, o + 3, none⟩ = some (.int .i64 t.c) ∧ w.cell? ⟨b, o + 4, none⟩ = some (.int .i64 t.d)

theorem SdAt.later {w w1 : World} {b o : Nat} {t : SplV} (h : SdAt w b o t) (hb : Below w.heap.size w w1) (hl : b < w.heap.size) : SdAt w1 b o t := by
  obtain ⟨g0, g1, g2, g3, g4⟩ := h
  exact ⟨by rw [hb.cell (p := ⟨b, _, none⟩) hl]; exact g0, by rw [hb.cell (p := ⟨b, _, none⟩) hl]; exact g1, by rw [hb.cell (p := ⟨b, _, none⟩) hl]; exact g2, by rw [hb.cell (p := ⟨b, _, none⟩) hl]; exact g3, by rw [hb.cell (p := ⟨b, _, none⟩) hl]; exact g4⟩

/-- these lie behind p -/
structure Sds (w : World) (p : Option Addr) (ts : List SplV) : Prop where
  at_ : ∀ i, (h : i < ts.length) → ∃ b off, p = some ⟨b, off, none⟩ ∧ b < w.heap.size ∧ SdAt w b (off + i * 5) ts[i]

theorem Sds.later {w w1 : World} {p : Option Addr} {ts : List SplV} (h : Sds w p ts) (hb : Below w.heap.size w w1) : Sds w1 p ts :=
  ⟨fun i hi => by
    obtain ⟨b, off, h1, h2, h3⟩ := h.at_ i hi
    exact ⟨b, off, h1, Nat.lt_of_lt_of_le h2 hb.size, h3.later hb h2⟩⟩
theorem Sds.nil (w : World) (p : Option Addr) : Sds w p [] := ⟨fun i h => absurd h (by simp)⟩
theorem Sds.drawn {w : World} {p : Option Addr} {ts : List SplV} (h : Sds w p ts) (n : Nat) : Sds (w.drewN n) p ts := ⟨h.at_⟩
theorem Sds.of_cells {w : World} {p : Option Addr} {ts : List SplV} (h : Cells w p (sdV ts)) : Sds w p ts := by
  refine ⟨fun i hi => ?_⟩
  have hl := sdV_length ts
  obtain ⟨b, off, h1, h2, h3⟩ := h.opened (by rw [hl]; omega)
  refine ⟨b, off, h1, h2, ?_, ?_, ?_, ?_, ?_⟩
  · exact h3 (i * 5) _ (by have := sdV_at ts i 0 hi (by omega); simpa [SplV.cells] using this)
  · exact h3 (i * 5 + 1) _ (by have := sdV_at ts i 1 hi (by omega); simpa [SplV.cells] using this)
  · exact h3 (i * 5 + 2) _ (by have := sdV_at ts i 2 hi (by omega); simpa [SplV.cells] using this)
  · exact h3 (i * 5 + 3) _ (by have := sdV_at ts i 3 hi (by omega); simpa [SplV.cells] using this)
  · exact h3 (i * 5 + 4) _ (by have := sdV_at ts i 4 hi (by omega); simpa [SplV.cells] using this)
theorem Sds.of_own {w : World} {base : Nat} {e : TypeId} {p : Option Addr} {n cap : Nat} {ts : List SplV} (h : w.ownsRow base e 5 (.slice p n cap) n (sdV ts)) : Sds w p ts :=
  .of_cells (Cells.of_own h)
/-- its cells behind p -/
theorem Sds.opened {w : World} {p : Option Addr} {ts : List SplV} (h : Sds w p ts) (h0 : 0 < ts.length) : ∃ b off, p = some ⟨b, off, none⟩ ∧ b < w.heap.size ∧ ∀ i (hi : i < ts.length), SdAt w b (off + i * 5) ts[i] := by
  obtain ⟨b, off, h1, h2, _⟩ := h.at_ 0 h0
  refine ⟨b, off, h1, h2, fun i hi => ?_⟩
  obtain ⟨b', off', g1, _, g3⟩ := h.at_ i hi
  rw [h1] at g1
  simp only [Option.some.injEq, Addr.mk.injEq, and_true] at g1
  obtain ⟨rfl, rfl⟩ := g1
  exact g3

theorem sdGuard : Try.prog.eqGuardType Try.prog.depth 37 = false := by kernel_rfl
theorem sdHeld : Try.prog.stoodInHeld 37 = false := by kernel_rfl
theorem sdFields : Try.prog.underlying 37 = some (.struct (Try.prog.fieldsOf 37)) := by kernel_rfl

theorem sdEq (a b : SplV) (w : World) : (Op.equalIn 10000 37 (.agg #[.int .i64 a.kind, .int .i64 a.a, .int .i64 a.b, .int .i64 a.c, .int .i64 a.d]) (.agg #[.int .i64 b.kind, .int .i64 b.a, .int .i64 b.b, .int .i64 b.c, .int .i64 b.d])).run Try.prog w = .ok (decide (a = b)) w := by
  rw [run_equalIn_struct w 9999 _ _ _ sdFields sdHeld]
  obtain ⟨x0, x1, x2, x3, x4⟩ := a
  obtain ⟨y0, y1, y2, y3, y4⟩ := b
  simp [go_sem, part, Program.fieldsOf, Try.underlying37]
  by_cases h0 : x0 = y0
  case neg => simp [h0]
  by_cases h1 : x1 = y1
  case neg => simp [h0, h1]
  by_cases h2 : x2 = y2
  case neg => simp [h0, h1, h2]
  by_cases h3 : x3 = y3
  case neg => simp [h0, h1, h2, h3]
  by_cases h4 : x4 = y4
  case neg => simp [h0, h1, h2, h3, h4]
  simp [h0, h1, h2, h3, h4]

end Go.Proofs.Ytjpimaiogdckpaa
