/-
  RING: where cells lie (for the law RingApart).
-/
import Derived.Test.YtabgpoagnofifaaRows
import Derived.ProofKit
import Derived.Test.YtabgpoagnofifaaLayG
import Derived.Test.YtabgpoagnofifaaWRingRound
namespace Go.Proofs.Ytabgpoagnofifaa
open Go.ChangeShapes Go.WideShapes Go.ChangeAt Go.RowKit

theorem cells_next (r : Int) (h0 : 0 ≤ r) (h4 : r ≤ 4) : cellsP r + sizeP r = cellsP (r + 1) := by
  rcases (show r = 0 ∨ r = 1 ∨ r = 2 ∨ r = 3 ∨ r = 4 by omega) with rfl | rfl | rfl | rfl | rfl <;> decide

theorem cells_mono (r q : Int) (h0 : 0 ≤ r) (h1 : r ≤ q) (h5 : q ≤ 5) : cellsP r ≤ cellsP q := by
  rcases (show r = 0 ∨ r = 1 ∨ r = 2 ∨ r = 3 ∨ r = 4 ∨ r = 5 by omega) with rfl | rfl | rfl | rfl | rfl | rfl <;> rcases (show q = 0 ∨ q = 1 ∨ q = 2 ∨ q = 3 ∨ q = 4 ∨ q = 5 by omega) with rfl | rfl | rfl | rfl | rfl | rfl <;> first | decide | omega

/-- a place that is there: where it lies -/
theorem place_form (s t g x r i : Int) (hr : 0 ≤ r) (hx : 0 ≤ x ∧ x < s) (hg : 0 ≤ g) (h : 0 ≤ placeP (ringP s t g x r) (sizeP r) i) :
    ∃ o, placeP (ringP s t g x r) (sizeP r) i = g + x * cellsP (ringsP t) + o ∧ cellsP r ≤ o ∧ o < cellsP (r + 1) ∧ r < ringsP t := by
  have h5 := rings_le t
  by_cases hlt : r < ringsP t
  · have hz := size_five r hr (by omega)
    have hc : cellsP r < cellsP (ringsP t) := by
      have h1 := cells_next r hr (by omega)
      have h2 := cells_mono (r + 1) (ringsP t) (by omega) (by omega) (by omega)
      omega
    have hc0 := (cells_le r hr).1
    have hb : ringP s t g x r = g + x * cellsP (ringsP t) + cellsP r := by
      unfold ringP
      rw [if_neg (by omega)]
      unfold atP
      rw [if_neg (by omega)]
    have hn := cells_next r hr (by omega)
    unfold placeP at h ⊢
    split at h
    · omega
    · rename_i h2
      rw [if_neg h2, hb]
      have e1 := Int.emod_nonneg i (show sizeP r ≠ 0 by omega)
      have e2 := Int.emod_lt_of_pos i (show 0 < sizeP r by omega)
      exact ⟨cellsP r + i % sizeP r, by omega, by omega, by omega, hlt⟩
  · exfalso
    have hb : ringP s t g x r = -1 := by unfold ringP; rw [if_pos (.inr (by omega))]
    unfold placeP at h
    rw [if_pos (.inl (by rw [hb]; omega))] at h
    omega

/-- a place that is there lies among the rings -/
theorem place_in (s t g x r i : Int) (hr : 0 ≤ r) (hx : 0 ≤ x ∧ x < s) (hs : s ≤ 3) (hg : 0 ≤ g) (h : 0 ≤ placeP (ringP s t g x r) (sizeP r) i) :
    g ≤ placeP (ringP s t g x r) (sizeP r) i ∧ placeP (ringP s t g x r) (sizeP r) i < g + s * cellsP (ringsP t) := by
  obtain ⟨o, ho, h1, h2, h3⟩ := place_form s t g x r i hr hx hg h
  have h5 := rings_le t
  have hc0 := (cells_le r hr).1
  have h6 := cells_mono (r + 1) (ringsP t) (by omega) (by omega) (by omega)
  rw [ho]
  obtain ⟨C, hC⟩ : ∃ C, cellsP (ringsP t) = C := ⟨_, rfl⟩
  rw [hC] at h6 ⊢
  rcases (show x = 0 ∨ x = 1 ∨ x = 2 by omega) with rfl | rfl | rfl <;> rcases (show s = 1 ∨ s = 2 ∨ s = 3 by omega) with rfl | rfl | rfl <;> omega

/-- no cell is in two rings -/
theorem place_apart (s t g x y r q i j : Int) (hr : 0 ≤ r) (hq : 0 ≤ q) (hx : 0 ≤ x ∧ x < s) (hy : 0 ≤ y ∧ y < s) (hs : s ≤ 3) (hg : 0 ≤ g)
    (ha : 0 ≤ placeP (ringP s t g x r) (sizeP r) i) (hb : 0 ≤ placeP (ringP s t g y q) (sizeP q) j) (he : placeP (ringP s t g x r) (sizeP r) i = placeP (ringP s t g y q) (sizeP q) j) : x = y ∧ r = q := by
  obtain ⟨o, ho, h1, h2, h3⟩ := place_form s t g x r i hr hx hg ha
  obtain ⟨p, hp, k1, k2, k3⟩ := place_form s t g y q j hq hy hg hb
  have h5 := rings_le t
  have c0 := (cells_le r hr).1
  have d0 := (cells_le q hq).1
  have h6 := cells_mono (r + 1) (ringsP t) (by omega) (by omega) (by omega)
  have k6 := cells_mono (q + 1) (ringsP t) (by omega) (by omega) (by omega)
  rw [ho, hp] at he
  obtain ⟨C, hC⟩ : ∃ C, cellsP (ringsP t) = C := ⟨_, rfl⟩
  rw [hC] at h6 k6 he
  have hxy : x = y := by
    rcases (show x = 0 ∨ x = 1 ∨ x = 2 by omega) with rfl | rfl | rfl <;> rcases (show y = 0 ∨ y = 1 ∨ y = 2 by omega) with rfl | rfl | rfl <;> omega
  refine ⟨hxy, ?_⟩
  subst hxy
  have hop : o = p := by omega
  by_cases e1 : r < q
  · have := cells_mono (r + 1) q (by omega) (by omega) (by omega)
    omega
  · by_cases e2 : q < r
    · have := cells_mono (q + 1) r (by omega) (by omega) (by omega)
      omega
    · omega
end Go.Proofs.Ytabgpoagnofifaa
