/-
  What is read behind stores, one by one: rules for goals 'cell? = some ..' over a chain of stores and makings.
-/
import Derived.Test.YtjpimaiogdckpaaBlk
namespace Go.Proofs.Ytjpimaiogdckpaa
open Go.RowKit

def Has (w : World) (a : Addr) : Prop := (w.cell? a).isSome = true
theorem Has.set {w : World} {b : Addr} (h : Has w b) (a : Addr) (v : Value) : Has (w.setCell a v) b := by
  unfold Has at *
  obtain ⟨x, hx⟩ := Option.isSome_iff_exists.1 h
  obtain ⟨y, hy⟩ := cell?_setCell_some (p := a) (x := v) hx
  rw [hy]; rfl
theorem Has.alloc {w : World} {b : Addr} (h : Has w b) (o : Obj) : Has (w.alloc o) b := by
  unfold Has at *
  obtain ⟨x, hx⟩ := Option.isSome_iff_exists.1 h
  have := World.block_lt_of_cell? w b hx
  rw [World.cell?_of_block (Below.heap_alloc w o b.block this)]
  exact h
theorem get_same {w : World} {a : Addr} {v : Value} (h : Has w a) : (w.setCell a v).cell? a = some v := by
  unfold Has at h
  obtain ⟨x, hx⟩ := Option.isSome_iff_exists.1 h
  exact World.cell?_setCell_same w a v hx
theorem get_far {w : World} {a b : Addr} {v : Value} {u : Option Value} (h : w.cell? b = u) (hne : a ≠ b) : (w.setCell a v).cell? b = u := (World.cell?_setCell_other w a b v hne).trans h
theorem get_alloc {w : World} {b : Addr} {o : Obj} {u : Value} (h : w.cell? b = some u) : (w.alloc o).cell? b = some u := by
  have := World.block_lt_of_cell? w b h
  rw [World.cell?_of_block (Below.heap_alloc w o b.block this)]
  exact h
theorem get_new {w : World} {cs : Array Value} {t : TypeId} {i : Nat} {v : Value} (h : cs[i]? = some v) : (w.alloc (Obj.cells cs t)).cell? ⟨w.heap.size, i, none⟩ = some v := by rw [(Blk.made w t cs).cell]; exact h

end Go.Proofs.Ytjpimaiogdckpaa
