/-
  ROWS OF RECORDS IN MEMORY (underwood/api.Event). Written by wip/tools/gen/rec.py.
-/
import Derived.Test.YtbfbfpjfmdannaaRows
import Derived.ProofKit
import Derived.Test.YtbfbfpjfmdannaaBlk
import Derived.Deep.QuietTactic
import Derived.BigQuiet
import Derived.LoopTactic
import Derived.Laws.StructEq
namespace Go.Proofs.Ytbfbfpjfmdannaa
open Go.ChangeShapes Go.WideShapes Go.ChangeAt Go.RowKit

structure EvV where
  worker : Int
  seat : Int
  kind : Int
  cell : Int
  old : Int
  new : Int
  val : Int
  ok : Bool
deriving DecidableEq
def EvV.cells (t : EvV) : List Value := [.int .i64 t.worker, .int .i64 t.seat, .int .i64 t.kind, .int .i64 t.cell, .int .i64 t.old, .int .i64 t.new, .int .i64 t.val, .bool t.ok]
def evV (ts : List EvV) : List Value := ts.flatMap EvV.cells
theorem evV_length : ∀ ts : List EvV, (evV ts).length = ts.length * 8
  | [] => rfl
  | t :: ts => by
    have := evV_length ts
    unfold evV at this ⊢
    simp only [List.flatMap_cons, List.length_append, List.length_cons, this]
    show 8 + _ = _
    omega
theorem evV_snoc (ts : List EvV) (t : EvV) : evV (ts ++ [t]) = evV ts ++ t.cells := by
  unfold evV; simp
theorem evV_at : ∀ (ts : List EvV) (i j : Nat) (h : i < ts.length), j < 8 → (evV ts)[i * 8 + j]? = (ts[i].cells)[j]?
  | t :: ts, 0, j, _, hj => by
    show (t.cells ++ evV ts)[0 * 8 + j]? = _
    rw [Nat.zero_mul, Nat.zero_add, List.getElem?_append_left (by show j < 8; exact hj)]
    rfl
  | t :: ts, i + 1, j, h, hj => by
    show (t.cells ++ evV ts)[(i + 1) * 8 + j]? = _
    rw [List.getElem?_append_right (by show 8 ≤ _; omega)]
    have e : (i + 1) * 8 + j - t.cells.length = i * 8 + j := by show _ - 8 = _; omega
    rw [e, evV_at ts i j (by simpa using h) hj]
    rfl

/-- one of them lies at (b, o) -/
def EvAt (w : World) (b o : Nat) (t : EvV) : Prop := w.cell? ⟨b, o, none⟩ = some (.int .i64 t.worker) ∧ w.cell? ⟨b, o + 1, none⟩ = some (.int .i64 t.seat) ∧ w.cell? ⟨b, o + 2, none⟩ = some (.int .i64 t.kind) ∧ w.cell? ⟨b, o + 3, none⟩ = some (.int .i64 t.cell) ∧ w.cell? ⟨b, o + 4, none⟩ = some (.int .i64 t.old) ∧ w.cell? ⟨b, o + 5, none⟩ = some (.int .i64 t.new) ∧ w.cell? ⟨b, o + 6, none⟩ = some (.int .i64 t.val) ∧ w.cell? ⟨b, o + 7, none⟩ = some (.bool t.ok)

theorem EvAt.later {w w1 : World} {b o : Nat} {t : EvV} (h : EvAt w b o t) (hb : Below w.heap.size w w1) (hl : b < w.heap.size) : EvAt w1 b o t := by
  obtain ⟨g0, g1, g2, g3, g4, g5, g6, g7⟩ := h
  exact ⟨by rw [hb.cell (p := ⟨b, _, none⟩) hl]; exact g0, by rw [hb.cell (p := ⟨b, _, none⟩) hl]; exact g1, by rw [hb.cell (p := ⟨b, _, none⟩) hl]; exact g2, by rw [hb.cell (p := ⟨b, _, none⟩) hl]; exact g3, by rw [hb.cell (p := ⟨b, _, none⟩) hl]; exact g4, by rw [hb.cell (p := ⟨b, _, none⟩) hl]; exact g5, by rw [hb.cell (p := ⟨b, _, none⟩) hl]; exact g6, by rw [hb.cell (p := ⟨b, _, none⟩) hl]; exact g7⟩

/-- these lie behind p -/
structure Evs (w : World) (p : Option Addr) (ts : List EvV) : Prop where
  at_ : ∀ i, (h : i < ts.length) → ∃ b off, p = some ⟨b, off, none⟩ ∧ b < w.heap.size ∧ EvAt w b (off + i * 8) ts[i]

theorem Evs.later {w w1 : World} {p : Option Addr} {ts : List EvV} (h : Evs w p ts) (hb : Below w.heap.size w w1) : Evs w1 p ts :=
  ⟨fun i hi => by
    obtain ⟨b, off, h1, h2, h3⟩ := h.at_ i hi
    exact ⟨b, off, h1, Nat.lt_of_lt_of_le h2 hb.size, h3.later hb h2⟩⟩
theorem Evs.nil (w : World) (p : Option Addr) : Evs w p [] := ⟨fun i h => absurd h (by simp)⟩
theorem Evs.drawn {w : World} {p : Option Addr} {ts : List EvV} (h : Evs w p ts) (n : Nat) : Evs (w.drewN n) p ts := ⟨h.at_⟩
theorem Evs.of_cells {w : World} {p : Option Addr} {ts : List EvV} (h : Cells w p (evV ts)) : Evs w p ts := by
  refine ⟨fun i hi => ?_⟩
  have hl := evV_length ts
  obtain ⟨b, off, h1, h2, h3⟩ := h.opened (by rw [hl]; omega)
  refine ⟨b, off, h1, h2, ?_, ?_, ?_, ?_, ?_, ?_, ?_, ?_⟩
  · exact h3 (i * 8) _ (by have := evV_at ts i 0 hi (by omega); simpa [EvV.cells] using this)
  · exact h3 (i * 8 + 1) _ (by have := evV_at ts i 1 hi (by omega); simpa [EvV.cells] using this)
  · exact h3 (i * 8 + 2) _ (by have := evV_at ts i 2 hi (by omega); simpa [EvV.cells] using this)
  · exact h3 (i * 8 + 3) _ (by have := evV_at ts i 3 hi (by omega); simpa [EvV.cells] using this)
  · exact h3 (i * 8 + 4) _ (by have := evV_at ts i 4 hi (by omega); simpa [EvV.cells] using this)
  · exact h3 (i * 8 + 5) _ (by have := evV_at ts i 5 hi (by omega); simpa [EvV.cells] using this)
  · exact h3 (i * 8 + 6) _ (by have := evV_at ts i 6 hi (by omega); simpa [EvV.cells] using this)
  · exact h3 (i * 8 + 7) _ (by have := evV_at ts i 7 hi (by omega); simpa [EvV.cells] using this)
theorem Evs.of_own {w : World} {base : Nat} {e : TypeId} {p : Option Addr} {n cap : Nat} {ts : List EvV} (h : w.ownsRow base e 8 (.slice p n cap) n (evV ts)) : Evs w p ts :=
  .of_cells (Cells.of_own h)
/-- its cells behind p -/
theorem Evs.opened {w : World} {p : Option Addr} {ts : List EvV} (h : Evs w p ts) (h0 : 0 < ts.length) : ∃ b off, p = some ⟨b, off, none⟩ ∧ b < w.heap.size ∧ ∀ i (hi : i < ts.length), EvAt w b (off + i * 8) ts[i] := by
  obtain ⟨b, off, h1, h2, _⟩ := h.at_ 0 h0
  refine ⟨b, off, h1, h2, fun i hi => ?_⟩
  obtain ⟨b', off', g1, _, g3⟩ := h.at_ i hi
  rw [h1] at g1
  simp only [Option.some.injEq, Addr.mk.injEq, and_true] at g1
  obtain ⟨rfl, rfl⟩ := g1
  exact g3

theorem evGuard : Try.prog.eqGuardType Try.prog.depth 48 = false := by kernel_rfl
theorem evHeld : Try.prog.stoodInHeld 48 = false := by kernel_rfl
theorem evFields : Try.prog.underlying 48 = some (.struct (Try.prog.fieldsOf 48)) := by kernel_rfl
theorem evAccessHeld : Try.prog.stoodInHeld 44 = false := by kernel_rfl
theorem evAccessFields : Try.prog.underlying 44 = some (.struct (Try.prog.fieldsOf 44)) := by kernel_rfl
theorem evResultHeld : Try.prog.stoodInHeld 46 = false := by kernel_rfl
theorem evResultFields : Try.prog.underlying 46 = some (.struct (Try.prog.fieldsOf 46)) := by kernel_rfl

theorem evEq (a b : EvV) (w : World) : (Op.equalIn 10000 48 (.agg #[.int .i64 a.worker, .int .i64 a.seat, .int .i64 a.kind, .int .i64 a.cell, .int .i64 a.old, .int .i64 a.new, .int .i64 a.val, .bool a.ok]) (.agg #[.int .i64 b.worker, .int .i64 b.seat, .int .i64 b.kind, .int .i64 b.cell, .int .i64 b.old, .int .i64 b.new, .int .i64 b.val, .bool b.ok])).run Try.prog w = .ok (decide (a = b)) w := by
  rw [run_equalIn_struct w 9999 _ _ _ evFields evHeld]
  obtain ⟨x0, x1, x2, x3, x4, x5, x6, x7⟩ := a
  obtain ⟨y0, y1, y2, y3, y4, y5, y6, y7⟩ := b
  simp [go_sem, part, Program.fieldsOf, Try.underlying48, Try.underlying44, Try.underlying46, evAccessHeld, evResultHeld]
  by_cases h0 : x0 = y0
  case neg => simp [h0]
  by_cases h1 : x1 = y1
  case neg => simp [h0, h1]
  by_cases h2 : x2 = y2
  case neg => simp [h0, h1, h2]
  by_cases h3 : x3 = y3
  case neg => simp [h0, h1, h2, h3]
  by_cases h4 : x4 = y4
  case neg => simp [h0, h1, h2, h3, h4]
  by_cases h5 : x5 = y5
  case neg => simp [h0, h1, h2, h3, h4, h5]
  by_cases h6 : x6 = y6
  case neg => simp [h0, h1, h2, h3, h4, h5, h6]
  by_cases h7 : x7 = y7
  case neg => simp [h0, h1, h2, h3, h4, h5, h6, h7]
  simp [h0, h1, h2, h3, h4, h5, h6, h7]

end Go.Proofs.Ytbfbfpjfmdannaa
