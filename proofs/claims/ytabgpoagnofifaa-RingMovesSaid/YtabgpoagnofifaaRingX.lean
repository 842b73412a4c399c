/-
  RING: a memory with a deque in it.
-/
import Derived.Test.YtabgpoagnofifaaRows
import Derived.ProofKit
import Derived.Deep.OwnRows
import Derived.Test.YtabgpoagnofifaaRingW
import Derived.Test.YtabgpoagnofifaaRingS
import Derived.Test.YtabgpoagnofifaaLayF
namespace Go.Proofs.Ytabgpoagnofifaa
open Go.ChangeShapes Go.WideShapes Go.ChangeAt Go.RowKit

/-- a memory, with a deque in it: its top, its bottom, its ring, and what lies in the places of a ring (the first k of the row's) -/
structure Lies (A : Array Value) (Z D : Nat) (t n r : Int) : Prop where
  size : A.size = Z
  top : A[D]? = some (.int .i64 t)
  bot : A[D + 1]? = some (.int .i64 (t + n))
  ring : A[D + 2]? = some (.int .i64 r)

def InRing (A : Array Value) (b z t : Int) (xs : List Int) (k : Nat) : Prop := ∀ i : Nat, i < k → A[(b + (t + i) % z).toNat]? = some (.int .i64 (xs.getD i 0))

theorem Lies.put {A : Array Value} {Z D : Nat} {t n r : Int} (h : Lies A Z D t n r) (c : Nat) (hc : D + 2 < c) (v : Value) : Lies (A.setIfInBounds c v) Z D t n r :=
  ⟨by simp [h.size], by rw [Array.getElem?_setIfInBounds_ne (by omega)]; exact h.top, by rw [Array.getElem?_setIfInBounds_ne (by omega)]; exact h.bot, by rw [Array.getElem?_setIfInBounds_ne (by omega)]; exact h.ring⟩

theorem Lies.turn {A : Array Value} {Z D : Nat} {t n r : Int} (h : Lies A Z D t n r) (hD : D + 2 < Z) (q : Int) : Lies (A.setIfInBounds (D + 2) (.int .i64 q)) Z D t n q :=
  ⟨by simp [h.size], by rw [Array.getElem?_setIfInBounds_ne (by omega)]; exact h.top, by rw [Array.getElem?_setIfInBounds_ne (by omega)]; exact h.bot, by rw [Array.getElem?_setIfInBounds_self, if_pos (by rw [h.size]; omega)]⟩

theorem Lies.made (A : Array Value) (Z D : Nat) (t n r : Int) (hA : A.size = Z) (hD : D + 2 < Z) : Lies (((A.setIfInBounds D (.int .i64 t)).setIfInBounds (D + 1) (.int .i64 (t + n))).setIfInBounds (D + 2) (.int .i64 r)) Z D t n r :=
  ⟨by simp [hA],
    by rw [Array.getElem?_setIfInBounds_ne (by omega), Array.getElem?_setIfInBounds_ne (by omega), Array.getElem?_setIfInBounds_self, if_pos (by omega)],
    by rw [Array.getElem?_setIfInBounds_ne (by omega), Array.getElem?_setIfInBounds_self, if_pos (by simp; omega)],
    by rw [Array.getElem?_setIfInBounds_self, if_pos (by simp; omega)]⟩

theorem InRing.keep {A : Array Value} {b z t : Int} {xs : List Int} {k : Nat} (h : InRing A b z t xs k) (c : Nat) (v : Value) (hc : ∀ i : Nat, i < k → c ≠ (b + (t + i) % z).toNat) : InRing (A.setIfInBounds c v) b z t xs k :=
  fun i hi => by rw [Array.getElem?_setIfInBounds_ne (hc i hi)]; exact h i hi

theorem InRing.more {A : Array Value} {b z t : Int} {xs : List Int} {k : Nat} (h : InRing A b z t xs k) (x : Int) (hx : xs.getD k 0 = x) (hs : (b + (t + k) % z).toNat < A.size) (hc : ∀ i : Nat, i < k → (b + (t + k) % z).toNat ≠ (b + (t + i) % z).toNat) :
    InRing (A.setIfInBounds (b + (t + k) % z).toNat (.int .i64 x)) b z t xs (k + 1) := fun i hi => by
  by_cases hik : i = k
  · subst hik; rw [Array.getElem?_setIfInBounds_self, if_pos hs, hx]
  · rw [Array.getElem?_setIfInBounds_ne (hc i (by omega))]; exact h i (by omega)

theorem ring_apart (r b t : Int) (hr : 0 ≤ r ∧ r ≤ 4) (hb : 0 ≤ b) (ht : 0 ≤ t) (n i j : Nat) (hn : (n : Int) ≤ sizeP r) (hi : i < n) (hj : j < n) (hij : i ≠ j) : (b + (t + i) % sizeP r).toNat ≠ (b + (t + j) % sizeP r).toNat := by
  rcases (show r = 0 ∨ r = 1 ∨ r = 2 ∨ r = 3 ∨ r = 4 by omega) with rfl | rfl | rfl | rfl | rfl
  · rw [show sizeP 0 = 4 from rfl] at *; omega
  · rw [show sizeP 1 = 8 from rfl] at *; omega
  · rw [show sizeP 2 = 16 from rfl] at *; omega
  · rw [show sizeP 3 = 32 from rfl] at *; omega
  · rw [show sizeP 4 = 64 from rfl] at *; omega

theorem size_pos5 (r : Int) (hr : 0 ≤ r ∧ r ≤ 4) : 0 < sizeP r ∧ sizeP r ≤ 64 := by
  rcases (show r = 0 ∨ r = 1 ∨ r = 2 ∨ r = 3 ∨ r = 4 by omega) with rfl | rfl | rfl | rfl | rfl <;> decide

theorem row_lies (X : Array Value) (S T g f se t r b z : Int) (Z D n : Nat) (xs : List Int) (x25 : X.size = 25) (x0 : X[0]? = some (.int .i64 S)) (x4 : X[4]? = some (.int .i64 T)) (x16 : X[16]? = some (.int .i64 f)) (x17 : X[17]? = some (.int .i64 g)) (hs : 1 ≤ S ∧ S ≤ 8) (hg : 0 ≤ g ∧ g ≤ 100000) (hf : 0 ≤ f ∧ f ≤ 50000)
    (hse : 0 ≤ se ∧ se < S) (hZ : Z ≤ 5000) (hl : xs.length = n) (hb : ringP S T g se r = b) (hz : sizeP r = z) (hb0 : 0 ≤ b) (hz0 : 0 < z) (ht : 0 ≤ t ∧ t ≤ 100000) (hr : 0 ≤ r ∧ r ≤ 100) (hbz : b + z ≤ Z) (hD : (D : Int) = f + se * 3) (hDZ : D + 2 < Z)
    (hn : (n : Int) ≤ z) (A : Array Value) (gm : Nat) (w : World) (hL : Lies A Z D t n r) (hI : InRing A b z t xs n) (hB : Blk w gm 3 A) :
    Calls Try.prog 19 #[.agg X, .agg #[.slice (some ⟨gm, 0, none⟩) Z Z], .int .i64 se] w (RowPost w xs n) := by
  subst hb hz
  exact row_any X S T g f se t r A gm Z n xs x25 x0 x4 x16 x17 hs hg hf hse hZ hl hb0 hz0 hn ht hr hbz (by omega)
    (by rw [show (f + se * 3 + 0).toNat = D by omega]; exact hL.top) (by rw [show (f + se * 3 + 1).toNat = D + 1 by omega]; exact hL.bot) (by rw [show (f + se * 3 + 2).toNat = D + 2 by omega]; exact hL.ring) hI w hB
end Go.Proofs.Ytabgpoagnofifaa
