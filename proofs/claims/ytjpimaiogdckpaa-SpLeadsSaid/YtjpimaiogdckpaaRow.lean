/-
  What a walk is told of a slice of integers that came in.
-/
import Derived.WalkKit
import Derived.OpenShut
import Derived.Below
namespace Go.Proofs.Ytjpimaiogdckpaa
open Go.RowKit

/-- what the walk is told of a slice of integers that came in -/
def IsRow (k : IntKind) (w : World) (a : Option Addr) (len cap : Nat) (zs : List Int) : Prop :=
  (a = none ∧ len = 0 ∧ cap = 0 ∧ zs = []) ∨
  ∃ x, a = some x ∧ len ≤ cap ∧ cap ≤ maxLen ∧ zs.length = cap ∧ (∀ i, i < zs.length → w.cell? (x.add i) = some (.int k (zs.getD i 0))) ∧ ∀ n ∈ zs, (Lit.int k n).wf = true

/-- its cells, one by one -/
def RowAt (k : IntKind) (w : World) (b off len : Nat) (f : Nat → Int) : Prop :=
  b < w.heap.size ∧ ∀ i, i < len → w.cell? ⟨b, off + i, none⟩ = some (.int k (f i)) ∧ (Lit.int k (f i)).wf = true

theorem IsRow.opened {k : IntKind} {w : World} {a : Option Addr} {len cap : Nat} {zs : List Int} (h : IsRow k w a len cap zs) :
    len ≤ maxLen ∧ (len = 0 ∨ ∃ b off, a = some ⟨b, off, none⟩ ∧ RowAt k w b off len (fun i => zs.getD i 0)) := by
  rcases h with ⟨_, h0, _, _⟩ | ⟨x, hx, h1, h2, h3, h4, h5⟩
  · exact ⟨by omega, .inl h0⟩
  · refine ⟨by omega, ?_⟩
    by_cases h0 : len = 0
    · exact .inl h0
    · obtain ⟨b, off, rfl, hc⟩ := ints_at h4 (by omega)
      refine .inr ⟨b, off, hx, World.block_lt_of_cell? w _ (hc 0 (by omega)), fun i hi => ⟨hc i (by omega), ?_⟩⟩
      show (Lit.int k (zs.getD i 0)).wf = true
      rw [List.getD_eq_getElem?_getD, List.getElem?_eq_getElem (by omega)]
      exact h5 _ (List.getElem_mem _)

theorem i64_bd {n : Int} (h : (Lit.int .i64 n).wf = true) : -9223372036854775808 ≤ n ∧ n ≤ 9223372036854775807 := by
  simpa [Lit.wf, IntKind.min, IntKind.max, IntKind.signed, IntKind.bits] using h
theorem u8_bd {n : Int} (h : (Lit.int .u8 n).wf = true) : 0 ≤ n ∧ n ≤ 255 := by
  simpa [Lit.wf, IntKind.min, IntKind.max, IntKind.signed, IntKind.bits] using h

theorem RowAt.later {k : IntKind} {w w1 : World} {b off len : Nat} {f : Nat → Int} (h : RowAt k w b off len f) (hb : Below w.heap.size w w1) : RowAt k w1 b off len f :=
  ⟨Nat.lt_of_lt_of_le h.1 hb.size, fun i hi => ⟨by rw [hb.cell (p := ⟨b, _, none⟩) h.1]; exact (h.2 i hi).1, (h.2 i hi).2⟩⟩

end Go.Proofs.Ytjpimaiogdckpaa
