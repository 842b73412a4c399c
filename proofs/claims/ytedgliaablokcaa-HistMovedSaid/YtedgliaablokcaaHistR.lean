/-
  ROWS OF RECORDS IN MEMORY (underwood/api.Call). Written by wip/tools/gen/rec.py.
-/
import Derived.Test.YtedgliaablokcaaRows
import Derived.ProofKit
import Derived.Test.YtedgliaablokcaaBlk
import Derived.Deep.QuietTactic
import Derived.BigQuiet
import Derived.LoopTactic
import Derived.Laws.StructEq
namespace Go.Proofs.Ytedgliaablokcaa
open Go.ChangeShapes Go.WideShapes Go.ChangeAt Go.RowKit

structure CallV where
  who : Int
  kind : Int
  obj : Int
  a : Int
  b : Int
  val : Int
  is : Bool
  first : Int
  last : Int
  point : Int
deriving DecidableEq
def CallV.cells (t : CallV) : List Value := [.int .i64 t.who, .int .i64 t.kind, .int .i64 t.obj, .int .i64 t.a, .int .i64 t.b, .int .i64 t.val, .bool t.is, .int .i64 t.first, .int .i64 t.last, .int .i64 t.point]
def hcV (ts : List CallV) : List Value := ts.flatMap CallV.cells
theorem hcV_length : ∀ ts : List CallV, (hcV ts).length = ts.length * 10
  | [] => rfl
  | t :: ts => by
    have := hcV_length ts
    unfold hcV at this ⊢
    simp only [List.flatMap_cons, List.length_append, List.length_cons, this]
    show 10 + _ = _
    omega
theorem hcV_snoc (ts : List CallV) (t : CallV) : hcV (ts ++ [t]) = hcV ts ++ t.cells := by
  unfold hcV; simp
theorem hcV_at : ∀ (ts : List CallV) (i j : Nat) (h : i < ts.length), j < 10 → (hcV ts)[i * 10 + j]? = (ts[i].cells)[j]?
  | t :: ts, 0, j, _, hj => by
    show (t.cells ++ hcV ts)[0 * 10 + j]? = _
    rw [Nat.zero_mul, Nat.zero_add, List.getElem?_append_left (by show j < 10; exact hj)]
    rfl
  | t :: ts, i + 1, j, h, hj => by
    show (t.cells ++ hcV ts)[(i + 1) * 10 + j]? = _
    rw [List.getElem?_append_right (by show 10 ≤ _; omega)]
    have e : (i + 1) * 10 + j - t.cells.length = i * 10 + j := by show _ - 10 = _; omega
    rw [e, hcV_at ts i j (by simpa using h) hj]
    rfl

/-- one of them lies at (b, o) -/
def HcAt (w : World) (b o : Nat) (t : CallV) : Prop := w.cell? ⟨b, o, none⟩ = some (.int .i64 t.who) ∧ w.cell? ⟨b, o + 1, none⟩ = some (.int .i64 t.kind) ∧ w.cell? ⟨b, o + 2, none⟩ = some (.int .i64 t.obj) ∧ w.cell? ⟨b, o + 3, none⟩ = some (.int .i64 t.a) ∧ w.cell? ⟨b, o + 4, none⟩ = some (.int .i64 t.b) ∧ w.cell? ⟨b, o + 5, none⟩ = some (.int .i64 t.val) ∧ w.cell? ⟨b, o + 6, none⟩ = some (.bool t.is) ∧ w.cell? ⟨b, o + 7, none⟩ = some (.int .i64 t.first) ∧ w.cell? ⟨b, o + 8, none⟩ = some (.int .i64 t.last) ∧ w.cell? ⟨b, o + 9, none⟩ = some (.int .i64 t.point)

theorem HcAt.later {w w1 : World} {b o : Nat} {t : CallV} (h : HcAt w b o t) (hb : Below w.heap.size w w1) (hl : b < w.heap.size) : HcAt w1 b o t := by
  obtain ⟨g0, g1, g2, g3, g4, g5, g6, g7, g8, g9⟩ := h
  exact ⟨by rw [hb.cell (p := ⟨b, _, none⟩) hl]; exact g0, by rw [hb.cell (p := ⟨b, _, none⟩) hl]; exact g1, by rw [hb.cell (p := ⟨b, _, none⟩) hl]; exact g2, by rw [hb.cell (p := ⟨b, _, none⟩) hl]; exact g3, by rw [hb.cell (p := ⟨b, _, none⟩) hl]; exact g4, by rw [hb.cell (p := ⟨b, _, none⟩) hl]; exact g5, by rw [hb.cell (p := ⟨b, _, none⟩) hl]; exact g6, by rw [hb.cell (p := ⟨b, _, none⟩) hl]; exact g7, by rw [hb.cell (p := ⟨b, _, none⟩) hl]; exact g8, by rw [hb.cell (p := ⟨b, _, none⟩) hl]; exact g9⟩

/-- these lie behind p -/
structure Hcs (w : World) (p : Option Addr) (ts : List CallV) : Prop where
  at_ : ∀ i, (h : i < ts.length) → ∃ b off, p = some ⟨b, off, none⟩ ∧ b < w.heap.size ∧ HcAt w b (off + i * 10) ts[i]

theorem Hcs.later {w w1 : World} {p : Option Addr} {ts : List CallV} (h : Hcs w p ts) (hb : Below w.heap.size w w1) : Hcs w1 p ts :=
  ⟨fun i hi => by
    obtain ⟨b, off, h1, h2, h3⟩ := h.at_ i hi
    exact ⟨b, off, h1, Nat.lt_of_lt_of_le h2 hb.size, h3.later hb h2⟩⟩
theorem Hcs.nil (w : World) (p : Option Addr) : Hcs w p [] := ⟨fun i h => absurd h (by simp)⟩
theorem Hcs.drawn {w : World} {p : Option Addr} {ts : List CallV} (h : Hcs w p ts) (n : Nat) : Hcs (w.drewN n) p ts := ⟨h.at_⟩
theorem Hcs.of_cells {w : World} {p : Option Addr} {ts : List CallV} (h : Cells w p (hcV ts)) : Hcs w p ts := by
  refine ⟨fun i hi => ?_⟩
  have hl := hcV_length ts
  obtain ⟨b, off, h1, h2, h3⟩ := h.opened (by rw [hl]; omega)
  refine ⟨b, off, h1, h2, ?_, ?_, ?_, ?_, ?_, ?_, ?_, ?_, ?_, ?_⟩
  · exact h3 (i * 10) _ (by have := hcV_at ts i 0 hi (by omega); simpa [CallV.cells] using this)
  · exact h3 (i * 10 + 1) _ (by have := hcV_at ts i 1 hi (by omega); simpa [CallV.cells] using this)
  · exact h3 (i * 10 + 2) _ (by have := hcV_at ts i 2 hi (by omega); simpa [CallV.cells] using this)
  · exact h3 (i * 10 + 3) _ (by have := hcV_at ts i 3 hi (by omega); simpa [CallV.cells] using this)
  · exact h3 (i * 10 + 4) _ (by have := hcV_at ts i 4 hi (by omega); simpa [CallV.cells] using this)
  · exact h3 (i * 10 + 5) _ (by have := hcV_at ts i 5 hi (by omega); simpa [CallV.cells] using this)
  · exact h3 (i * 10 + 6) _ (by have := hcV_at ts i 6 hi (by omega); simpa [CallV.cells] using this)
  · exact h3 (i * 10 + 7) _ (by have := hcV_at ts i 7 hi (by omega); simpa [CallV.cells] using this)
  · exact h3 (i * 10 + 8) _ (by have := hcV_at ts i 8 hi (by omega); simpa [CallV.cells] using this)
  · exact h3 (i * 10 + 9) _ (by have := hcV_at ts i 9 hi (by omega); simpa [CallV.cells] using this)
theorem Hcs.of_own {w : World} {base : Nat} {e : TypeId} {p : Option Addr} {n cap : Nat} {ts : List CallV} (h : w.ownsRow base e 10 (.slice p n cap) n (hcV ts)) : Hcs w p ts :=
  .of_cells (Cells.of_own h)
/-- its cells behind p -/
theorem Hcs.opened {w : World} {p : Option Addr} {ts : List CallV} (h : Hcs w p ts) (h0 : 0 < ts.length) : ∃ b off, p = some ⟨b, off, none⟩ ∧ b < w.heap.size ∧ ∀ i (hi : i < ts.length), HcAt w b (off + i * 10) ts[i] := by
  obtain ⟨b, off, h1, h2, _⟩ := h.at_ 0 h0
  refine ⟨b, off, h1, h2, fun i hi => ?_⟩
  obtain ⟨b', off', g1, _, g3⟩ := h.at_ i hi
  rw [h1] at g1
  simp only [Option.some.injEq, Addr.mk.injEq, and_true] at g1
  obtain ⟨rfl, rfl⟩ := g1
  exact g3

theorem hcGuard : Try.prog.eqGuardType Try.prog.depth 30 = false := by kernel_rfl
theorem hcHeld : Try.prog.stoodInHeld 30 = false := by kernel_rfl
theorem hcFields : Try.prog.underlying 30 = some (.struct (Try.prog.fieldsOf 30)) := by kernel_rfl
theorem hcOpHeld : Try.prog.stoodInHeld 28 = false := by kernel_rfl
theorem hcOpFields : Try.prog.underlying 28 = some (.struct (Try.prog.fieldsOf 28)) := by kernel_rfl

theorem hcEq (a b : CallV) (w : World) : (Op.equalIn 10000 30 (.agg #[.int .i64 a.who, .int .i64 a.kind, .int .i64 a.obj, .int .i64 a.a, .int .i64 a.b, .int .i64 a.val, .bool a.is, .int .i64 a.first, .int .i64 a.last, .int .i64 a.point]) (.agg #[.int .i64 b.who, .int .i64 b.kind, .int .i64 b.obj, .int .i64 b.a, .int .i64 b.b, .int .i64 b.val, .bool b.is, .int .i64 b.first, .int .i64 b.last, .int .i64 b.point])).run Try.prog w = .ok (decide (a = b)) w := by
  rw [run_equalIn_struct w 9999 _ _ _ hcFields hcHeld]
  obtain ⟨x0, x1, x2, x3, x4, x5, x6, x7, x8, x9⟩ := a
  obtain ⟨y0, y1, y2, y3, y4, y5, y6, y7, y8, y9⟩ := b
  simp [go_sem, part, Program.fieldsOf, Try.underlying30, Try.underlying28, hcOpHeld]
  by_cases h0 : x0 = y0
  case neg => simp [h0]
  by_cases h1 : x1 = y1
  case neg => simp [h0, h1]
  by_cases h2 : x2 = y2
  case neg => simp [h0, h1, h2]
  by_cases h3 : x3 = y3
  case neg => simp [h0, h1, h2, h3]
  by_cases h4 : x4 = y4
  case neg => simp [h0, h1, h2, h3, h4]
  by_cases h5 : x5 = y5
  case neg => simp [h0, h1, h2, h3, h4, h5]
  by_cases h6 : x6 = y6
  case neg => simp [h0, h1, h2, h3, h4, h5, h6]
  by_cases h7 : x7 = y7
  case neg => simp [h0, h1, h2, h3, h4, h5, h6, h7]
  by_cases h8 : x8 = y8
  case neg => simp [h0, h1, h2, h3, h4, h5, h6, h7, h8]
  by_cases h9 : x9 = y9
  case neg => simp [h0, h1, h2, h3, h4, h5, h6, h7, h8, h9]
  simp [h0, h1, h2, h3, h4, h5, h6, h7, h8, h9]

end Go.Proofs.Ytedgliaablokcaa
