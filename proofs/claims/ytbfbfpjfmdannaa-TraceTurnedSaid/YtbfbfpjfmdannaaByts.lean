/-
  A slice of bytes, in memory, that reads as a list.
-/
import Derived.WalkKit
import Derived.Below
import Derived.Laws.OwnMore
import Derived.Test.YtbfbfpjfmdannaaBlk
namespace Go.Proofs.Ytbfbfpjfmdannaa
open Go.RowKit

/-- does a number fit a byte? -/
def In8 (n : Int) : Prop := 0 ≤ n ∧ n ≤ 255

/-- the cells behind p are the list's numbers, in memory that was there -/
structure Byts (w : World) (p : Option Addr) (xs : List Int) : Prop where
  cells : ∀ i, (h : i < xs.length) → ∃ b off, p = some ⟨b, off, none⟩ ∧ b < w.heap.size ∧ w.cell? ⟨b, off + i, none⟩ = some (.int .u8 xs[i])
  rng : ∀ x ∈ xs, In8 x

theorem Byts.nil (w : World) (p : Option Addr) : Byts w p [] := ⟨fun i h => absurd h (by simp), fun x h => absurd h (by simp)⟩

theorem Byts.later {w w1 : World} {p : Option Addr} {xs : List Int} (h : Byts w p xs) (hb : Below w.heap.size w w1) : Byts w1 p xs :=
  ⟨fun i hi => by
    obtain ⟨b, off, h1, h2, h3⟩ := h.cells i hi
    exact ⟨b, off, h1, Nat.lt_of_lt_of_le h2 hb.size, by rw [hb.cell (p := ⟨b, _, none⟩) h2]; exact h3⟩, h.rng⟩

/-- later, where what was there below some earlier block alone is as it was -/
theorem Byts.keep {w w1 : World} {p : Option Addr} {xs : List Int} (h : Byts w p xs) (B : Nat) (hB : ∀ b off, p = some ⟨b, off, none⟩ → b < B) (hb : Below B w w1) : Byts w1 p xs :=
  ⟨fun i hi => by
    obtain ⟨b, off, h1, h2, h3⟩ := h.cells i hi
    exact ⟨b, off, h1, Nat.lt_of_lt_of_le h2 hb.size, by rw [hb.cell (p := ⟨b, _, none⟩) (hB b off h1)]; exact h3⟩, h.rng⟩

theorem Byts.far {w : World} {p : Option Addr} {xs : List Int} (h : Byts w p xs) (a : Addr) (v : Value) (hne : 0 < xs.length → ∀ b off, p = some ⟨b, off, none⟩ → b ≠ a.block) : Byts (w.setCell a v) p xs :=
  ⟨fun i hi => by
    obtain ⟨b, off, h1, h2, h3⟩ := h.cells i hi
    refine ⟨b, off, h1, by simpa using h2, ?_⟩
    rw [World.cell?_of_block (w := w) (a := ⟨b, off + i, none⟩) (Below.heap_setCell w a v b (hne (by omega) b off h1))]
    exact h3, h.rng⟩

theorem Byts.at_ {w : World} {p : Option Addr} {xs : List Int} (h : Byts w p xs) (i : Nat) (hi : i < xs.length) :
    ∃ b off x, p = some ⟨b, off, none⟩ ∧ b < w.heap.size ∧ w.cell? ⟨b, off + i, none⟩ = some (.int .u8 x) ∧ xs[i]? = some x ∧ In8 x := by
  obtain ⟨b, off, h1, h2, h3⟩ := h.cells i hi
  exact ⟨b, off, xs[i], h1, h2, h3, List.getElem?_eq_getElem hi, h.rng _ (List.getElem_mem _)⟩

theorem Byts.addr {w : World} {p : Option Addr} {xs : List Int} (h : Byts w p xs) (h0 : 0 < xs.length) :
    ∃ b off, p = some ⟨b, off, none⟩ ∧ b < w.heap.size ∧ ∀ j a, xs[j]? = some a → w.cell? ((⟨b, off, none⟩ : Addr).add j) = some (.int .u8 a) := by
  obtain ⟨b, off, h1, h2, _⟩ := h.cells 0 h0
  refine ⟨b, off, h1, h2, fun j a hj => ?_⟩
  obtain ⟨hlt, hv⟩ := List.getElem?_eq_some_iff.1 hj
  obtain ⟨b', off', g1, _, g3⟩ := h.cells j hlt
  rw [h1] at g1
  simp only [Option.some.injEq, Addr.mk.injEq, and_true] at g1
  obtain ⟨rfl, rfl⟩ := g1
  rw [addr_add, g3, hv]

theorem Byts.of_row {w : World} {a : Option Addr} {len cap : Nat} {zs : List Int} (h : IsRow .u8 w a len cap zs) : Byts w a (zs.take len) ∧ (zs.take len).length = len ∧ len ≤ maxLen := by
  obtain ⟨h1, h2⟩ := h.opened
  have hlen : len ≤ zs.length := by
    rcases h with ⟨_, h0, _, rfl⟩ | ⟨x, hx, g1, g2, g3, g4, g5⟩
    · omega
    · omega
  refine ⟨⟨fun i hi => ?_, fun x hx => ?_⟩, by rw [List.length_take]; omega, h1⟩
  · rw [List.length_take] at hi
    rcases h2 with h0 | ⟨b, off, rfl, hr⟩
    · omega
    · refine ⟨b, off, rfl, hr.1, ?_⟩
      have := (hr.2 i (by omega)).1
      rw [this, List.getElem_take]
      show some (Value.int .u8 (zs.getD i 0)) = _
      rw [List.getD_eq_getElem?_getD, List.getElem?_eq_getElem (by omega)]; rfl
  · rcases h with ⟨_, h0, _, rfl⟩ | ⟨x, hx', g1, g2, g3, g4, g5⟩
    · simp at hx
    · exact u8_bd (g5 _ (List.mem_of_mem_take hx))

/-- a row of the call's own reads as its list -/
theorem Byts.of_own {w : World} {base : Nat} {e : TypeId} {p : Option Addr} {n cap : Nat} {xs : List Int} (h : w.ownsRow base e 1 (.slice p n cap) n (xs.map (Value.int .u8))) (hr : ∀ x ∈ xs, In8 x) : Byts w p xs ∧ xs.length = n := by
  have hlen : xs.length = n := by have := h.1; simpa using this
  refine ⟨⟨fun i hi => ?_, hr⟩, hlen⟩
  rcases h.2 with ⟨_, h0⟩ | ⟨g, cap', cur, hv, hb, hg, hnc, _⟩
  · omega
  · simp only [Value.slice.injEq] at hv
    obtain ⟨rfl, _, rfl⟩ := hv
    refine ⟨g, 0, rfl, (Array.getElem?_eq_some_iff.1 hg).1, ?_⟩
    rw [Nat.zero_add, h.cellAt i (by omega)]
    simp [hi]

theorem Byts.old {w : World} {p : Option Addr} {xs : List Int} (h : Byts w p xs) (hl : 0 < xs.length) : ∀ b off, p = some ⟨b, off, none⟩ → b < w.heap.size := by
  intro b off e
  obtain ⟨b', off', h1, h2, _⟩ := h.cells 0 hl
  rw [e] at h1; injection h1 with h1; injection h1 with h1; omega

/-- a block known whole reads as its list -/
theorem Byts.of_blk {w : World} {b : Nat} {t : TypeId} {xs : List Int} (h : Blk w b t (xs.map (Value.int .u8)).toArray) (hr : ∀ x ∈ xs, In8 x) : Byts w (some ⟨b, 0, none⟩) xs := by
  refine ⟨fun i hi => ⟨b, 0, rfl, h.lt, ?_⟩, hr⟩
  rw [h.cell]
  simp [hi]
theorem Ints.of_blk {w : World} {b : Nat} {t : TypeId} {xs : List Int} (h : Blk w b t (xs.map (Value.int .i64)).toArray) (hr : ∀ x ∈ xs, In64 x) : Ints w (some ⟨b, 0, none⟩) xs := by
  refine ⟨fun i hi => ⟨b, 0, rfl, h.lt, ?_⟩, hr⟩
  rw [h.cell]
  simp [hi]

/-- a part of it -/
theorem Byts.part {w : World} {b off : Nat} {xs : List Int} (h : Byts w (some ⟨b, off, none⟩) xs) (i n : Nat) : Byts w (some ⟨b, off + i, none⟩) ((xs.drop i).take n) := by
  refine ⟨fun j hj => ?_, fun x hx => h.rng x (List.mem_of_mem_drop (List.mem_of_mem_take hx))⟩
  simp only [List.length_take, List.length_drop] at hj
  obtain ⟨b', off', h1, h2, h3⟩ := h.cells (i + j) (by omega)
  injection h1 with h1
  injection h1 with h1 h4
  subst h1 h4
  refine ⟨b, off + i, rfl, h2, ?_⟩
  rw [Nat.add_assoc, h3]
  simp

/-- the cells, as appends ask for them -/
theorem Byts.src {w : World} {b off : Nat} {xs : List Int} (h : Byts w (some ⟨b, off, none⟩) xs) : ∀ j u, (xs.map (Value.int .u8))[j]? = some u → w.cell? ((⟨b, off, none⟩ : Addr).add j) = some u := by
  intro j u hu
  rw [List.getElem?_map] at hu
  cases ha : xs[j]? with
  | none => rw [ha] at hu; simp at hu
  | some a =>
    rw [ha] at hu
    simp at hu
    subst hu
    obtain ⟨hlt, hv⟩ := List.getElem?_eq_some_iff.1 ha
    obtain ⟨b', off', h1, h2, h3⟩ := h.cells j hlt
    injection h1 with h1
    injection h1 with h1 h4
    subst h1 h4
    rw [addr_add, h3, hv]

end Go.Proofs.Ytbfbfpjfmdannaa
