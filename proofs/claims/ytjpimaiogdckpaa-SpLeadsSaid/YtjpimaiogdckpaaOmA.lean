/-
  OM: rows of numbers.
-/
import Derived.Test.YtjpimaiogdckpaaRows
import Derived.ProofKit
import Derived.Deep.QuietTactic
import Derived.BigQuiet
import Derived.LoopTactic
import Derived.Test.YtjpimaiogdckpaaOwn
import Derived.Test.YtjpimaiogdckpaaTail
import Derived.Test.YtjpimaiogdckpaaGet
import Derived.Lib.AppendZeros
import Derived.Laws.AppendOwnNone
import Derived.Lib.SliceRun
import Derived.Lib.Walk
namespace Go.Proofs.Ytjpimaiogdckpaa
open Go.ChangeShapes Go.WideShapes Go.ChangeAt Go.RowKit

/-- a slice that reads as these numbers -/
structure Nums (w : World) (p : Option Addr) (cap : Nat) (xs : List Int) : Prop where
  cells : Cells w p (xs.map (Value.int .i64))
  le : xs.length ≤ cap
  big : cap ≤ maxLen
  nil : p = none → cap = 0

theorem Nums.later {w w1 : World} {p : Option Addr} {cap : Nat} {xs : List Int} (h : Nums w p cap xs) (hb : Below w.heap.size w w1) : Nums w1 p cap xs := ⟨h.cells.later hb, h.le, h.big, h.nil⟩
theorem Nums.nix (w : World) : Nums w none 0 [] := ⟨⟨fun i hi => absurd hi (by simp)⟩, by simp, by unfold maxLen; omega, fun _ => rfl⟩
theorem Nums.at_ {w : World} {p : Option Addr} {cap : Nat} {xs : List Int} (h : Nums w p cap xs) (i : Nat) (hi : i < xs.length) : ∃ b off, p = some ⟨b, off, none⟩ ∧ b < w.heap.size ∧ w.cell? ⟨b, off + i, none⟩ = some (.int .i64 xs[i]) := by
  obtain ⟨b, off, h1, h2, h3⟩ := h.cells.at_ i (by simpa using hi)
  exact ⟨b, off, h1, h2, by rw [h3]; simp⟩
theorem Nums.of_blk {w : World} {g : Nat} {t : TypeId} {cs : Array Value} {xs : List Int} {cap : Nat} (h : Blk w g t cs) (hc : cs.toList.take xs.length = xs.map (Value.int .i64)) (hl : xs.length ≤ cap) (hb : cap ≤ maxLen) : Nums w (some ⟨g, 0, none⟩) cap xs := by
  refine ⟨⟨fun i hi => ⟨g, 0, rfl, h.lt, ?_⟩⟩, hl, hb, fun h => by cases h⟩
  have hi2 : i < xs.length := by simpa using hi
  rw [Nat.zero_add, h.cell, ← Array.getElem?_toList]
  have : (cs.toList.take xs.length)[i]? = (xs.map (Value.int .i64))[i]? := by rw [hc]
  rw [List.getElem?_take, if_pos hi2, List.getElem?_eq_getElem hi] at this
  exact this
theorem Nums.of_own {w : World} {base : Nat} {e : TypeId} {p : Option Addr} {n cap : Nat} {xs : List Int} (h : w.ownsRow base e 1 (.slice p n cap) n (xs.map (Value.int .i64))) : Nums w p cap xs ∧ xs.length = n := by
  have hl := h.1
  rw [List.length_map, Nat.mul_one] at hl
  refine ⟨⟨Cells.of_own h, ?_, ?_, ?_⟩, hl⟩
  all_goals
    rcases h.2 with ⟨h1, h2⟩ | ⟨g, cap', cur, h1, h2, h3, h4, h5, _⟩
    all_goals
      simp only [Value.slice.injEq] at h1
      obtain ⟨rfl, _, rfl⟩ := h1
  · omega
  · omega
  · unfold maxLen; omega
  · exact h5
  · intro _; rfl
  · intro h; cases h
/-- the cells behind p, as an append wants them -/
theorem Nums.news {w : World} {x : Addr} {cap : Nat} {xs : List Int} (h : Nums w (some x) cap xs) : ∀ j u, (xs.map (Value.int .i64))[j]? = some u → w.cell? (x.add j) = some u := by
  intro j u hu
  obtain ⟨hj, he⟩ := List.getElem?_eq_some_iff.1 hu
  obtain ⟨b, off, h1, _, h3⟩ := h.cells.at_ j hj
  injection h1 with h1
  subst h1
  rw [addr_add, h3, he]
theorem Nums.below {w : World} {p : Option Addr} {cap : Nat} {xs : List Int} (h : Nums w p cap xs) (h0 : 0 < xs.length) (b off : Nat) (hp : p = some ⟨b, off, none⟩) : b < w.heap.size := by
  obtain ⟨b', off', h1, h2, _⟩ := h.at_ 0 h0
  rw [hp] at h1
  injection h1 with h1
  injection h1 with h1
  rw [h1]; exact h2
theorem Nums.far {w : World} {p : Option Addr} {cap : Nat} {xs : List Int} (h : Nums w p cap xs) (g i : Nat) (v : Value) (hne : 0 < xs.length → ∀ b off, p = some ⟨b, off, none⟩ → b ≠ g) : Nums (w.setCell ⟨g, i, none⟩ v) p cap xs :=
  ⟨⟨fun j hj => by
    obtain ⟨b, off, h1, h2, h3⟩ := h.cells.at_ j hj
    refine ⟨b, off, h1, by simpa using h2, ?_⟩
    rw [World.cell?_of_block (w := w) (a := ⟨b, off + j, none⟩) (Below.heap_setCell w ⟨g, i, none⟩ v b (hne (by rw [List.length_map] at hj; omega) b off h1))]
    exact h3⟩, h.le, h.big, h.nil⟩
theorem Nums.drawn {w : World} {p : Option Addr} {cap : Nat} {xs : List Int} (h : Nums w p cap xs) (n : Nat) : Nums (w.drewN n) p cap xs := ⟨⟨h.cells.at_⟩, h.le, h.big, h.nil⟩
/-- a part of it -/
theorem Nums.take {w : World} {p : Option Addr} {cap : Nat} {xs : List Int} (h : Nums w p cap xs) (k : Nat) : Nums w p cap (xs.take k) :=
  ⟨⟨fun i hi => by
    rw [List.length_map, List.length_take] at hi
    obtain ⟨b, off, h1, h2, h3⟩ := h.cells.at_ i (by rw [List.length_map]; omega)
    refine ⟨b, off, h1, h2, ?_⟩
    rw [h3]; simp⟩, by have := h.le; rw [List.length_take]; omega, h.big, h.nil⟩
theorem Nums.drop {w : World} {x : Addr} {cap : Nat} {xs : List Int} (h : Nums w (some x) cap xs) (k : Nat) (hk : k ≤ xs.length) : Nums w (some (if cap = k then x else x.add k)) (cap - k) (xs.drop k) := by
  have hle := h.le
  have hbg := h.big
  refine ⟨⟨fun i hi => ?_⟩, by rw [List.length_drop]; omega, by omega, fun h => by cases h⟩
  rw [List.length_map, List.length_drop] at hi
  obtain ⟨b, off, h1, h2, h3⟩ := h.cells.at_ (k + i) (by rw [List.length_map]; omega)
  injection h1 with h1
  subst h1
  rw [if_neg (by omega)]
  refine ⟨b, off + k, by rw [addr_add], h2, ?_⟩
  rw [Nat.add_assoc, h3]; simp

theorem intInfo : (Try.prog.info? 3).map (fun i => (i.zero, i.size, i.bytes)) = some (some (.int .i64 0), 1, 8) := by kernel_rfl

theorem zeroCells_size (z : Array Value) (n : Nat) (h : z.size = 1) : (Builtin.zeroCells z n).size = n := by
  simp [Builtin.zeroCells, h]

end Go.Proofs.Ytjpimaiogdckpaa
