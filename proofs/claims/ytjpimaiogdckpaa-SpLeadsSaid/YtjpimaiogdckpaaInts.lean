/-
  A slice of integers, in memory, that reads as a list.
-/
import Derived.WalkKit
import Derived.Below
import Derived.Laws.OwnMore
import Derived.Test.YtjpimaiogdckpaaRow
namespace Go.Proofs.Ytjpimaiogdckpaa
open Go.RowKit

/-- does a number fit int? -/
def In64 (n : Int) : Prop := -9223372036854775808 ≤ n ∧ n ≤ 9223372036854775807

/-- the cells behind p are the list's numbers, in memory that was there -/
structure Ints (w : World) (p : Option Addr) (xs : List Int) : Prop where
  cells : ∀ i, (h : i < xs.length) → ∃ b off, p = some ⟨b, off, none⟩ ∧ b < w.heap.size ∧ w.cell? ⟨b, off + i, none⟩ = some (.int .i64 xs[i])
  rng : ∀ x ∈ xs, In64 x

theorem Ints.nil (w : World) (p : Option Addr) : Ints w p [] := ⟨fun i h => absurd h (by simp), fun x h => absurd h (by simp)⟩

theorem Ints.later {w w1 : World} {p : Option Addr} {xs : List Int} (h : Ints w p xs) (hb : Below w.heap.size w w1) : Ints w1 p xs :=
  ⟨fun i hi => by
    obtain ⟨b, off, h1, h2, h3⟩ := h.cells i hi
    exact ⟨b, off, h1, Nat.lt_of_lt_of_le h2 hb.size, by rw [hb.cell (p := ⟨b, _, none⟩) h2]; exact h3⟩, h.rng⟩

/-- later, where what was there below some earlier block alone is as it was -/
theorem Ints.keep {w w1 : World} {p : Option Addr} {xs : List Int} (h : Ints w p xs) (B : Nat) (hB : ∀ b off, p = some ⟨b, off, none⟩ → b < B) (hb : Below B w w1) : Ints w1 p xs :=
  ⟨fun i hi => by
    obtain ⟨b, off, h1, h2, h3⟩ := h.cells i hi
    exact ⟨b, off, h1, Nat.lt_of_lt_of_le h2 hb.size, by rw [hb.cell (p := ⟨b, _, none⟩) (hB b off h1)]; exact h3⟩, h.rng⟩

theorem Ints.far {w : World} {p : Option Addr} {xs : List Int} (h : Ints w p xs) (a : Addr) (v : Value) (hne : 0 < xs.length → ∀ b off, p = some ⟨b, off, none⟩ → b ≠ a.block) : Ints (w.setCell a v) p xs :=
  ⟨fun i hi => by
    obtain ⟨b, off, h1, h2, h3⟩ := h.cells i hi
    refine ⟨b, off, h1, by simpa using h2, ?_⟩
    rw [World.cell?_of_block (w := w) (a := ⟨b, off + i, none⟩) (Below.heap_setCell w a v b (hne (by omega) b off h1))]
    exact h3, h.rng⟩

theorem Ints.at_ {w : World} {p : Option Addr} {xs : List Int} (h : Ints w p xs) (i : Nat) (hi : i < xs.length) :
    ∃ b off x, p = some ⟨b, off, none⟩ ∧ b < w.heap.size ∧ w.cell? ⟨b, off + i, none⟩ = some (.int .i64 x) ∧ xs[i]? = some x ∧ In64 x := by
  obtain ⟨b, off, h1, h2, h3⟩ := h.cells i hi
  exact ⟨b, off, xs[i], h1, h2, h3, List.getElem?_eq_getElem hi, h.rng _ (List.getElem_mem _)⟩

theorem addr_add (b off j : Nat) : (⟨b, off, none⟩ : Addr).add j = ⟨b, off + j, none⟩ := by unfold Addr.add; split <;> simp_all

theorem Ints.addr {w : World} {p : Option Addr} {xs : List Int} (h : Ints w p xs) (h0 : 0 < xs.length) :
    ∃ b off, p = some ⟨b, off, none⟩ ∧ b < w.heap.size ∧ ∀ j a, xs[j]? = some a → w.cell? ((⟨b, off, none⟩ : Addr).add j) = some (.int .i64 a) := by
  obtain ⟨b, off, h1, h2, _⟩ := h.cells 0 h0
  refine ⟨b, off, h1, h2, fun j a hj => ?_⟩
  obtain ⟨hlt, hv⟩ := List.getElem?_eq_some_iff.1 hj
  obtain ⟨b', off', g1, _, g3⟩ := h.cells j hlt
  rw [h1] at g1
  simp only [Option.some.injEq, Addr.mk.injEq, and_true] at g1
  obtain ⟨rfl, rfl⟩ := g1
  rw [addr_add, g3, hv]

theorem Ints.of_row {w : World} {a : Option Addr} {len cap : Nat} {zs : List Int} (h : IsRow .i64 w a len cap zs) : Ints w a (zs.take len) ∧ (zs.take len).length = len ∧ len ≤ maxLen := by
  obtain ⟨h1, h2⟩ := h.opened
  have hlen : len ≤ zs.length := by
    rcases h with ⟨_, h0, _, rfl⟩ | ⟨x, hx, g1, g2, g3, g4, g5⟩
    · omega
    · omega
  refine ⟨⟨fun i hi => ?_, fun x hx => ?_⟩, by rw [List.length_take]; omega, h1⟩
  · rw [List.length_take] at hi
    rcases h2 with h0 | ⟨b, off, rfl, hr⟩
    · omega
    · refine ⟨b, off, rfl, hr.1, ?_⟩
      have := (hr.2 i (by omega)).1
      rw [this, List.getElem_take]
      show some (Value.int .i64 (zs.getD i 0)) = _
      rw [List.getD_eq_getElem?_getD, List.getElem?_eq_getElem (by omega)]; rfl
  · rcases h with ⟨_, h0, _, rfl⟩ | ⟨x, hx', g1, g2, g3, g4, g5⟩
    · simp at hx
    · exact i64_bd (g5 _ (List.mem_of_mem_take hx))

/-- a row of the call's own reads as its list -/
theorem Ints.of_own {w : World} {base : Nat} {e : TypeId} {p : Option Addr} {n cap : Nat} {xs : List Int} (h : w.ownsRow base e 1 (.slice p n cap) n (xs.map (Value.int .i64))) (hr : ∀ x ∈ xs, In64 x) : Ints w p xs ∧ xs.length = n := by
  have hlen : xs.length = n := by have := h.1; simpa using this
  refine ⟨⟨fun i hi => ?_, hr⟩, hlen⟩
  rcases h.2 with ⟨_, h0⟩ | ⟨g, cap', cur, hv, hb, hg, hnc, _⟩
  · omega
  · simp only [Value.slice.injEq] at hv
    obtain ⟨rfl, _, rfl⟩ := hv
    refine ⟨g, 0, rfl, (Array.getElem?_eq_some_iff.1 hg).1, ?_⟩
    rw [Nat.zero_add, h.cellAt i (by omega)]
    simp [hi]

end Go.Proofs.Ytjpimaiogdckpaa
