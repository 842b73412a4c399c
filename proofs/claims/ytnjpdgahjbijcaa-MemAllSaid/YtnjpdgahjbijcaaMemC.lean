/-
  MEM: the contracts of Do, Same; the document's Do, Same.
-/
import Derived.Test.YtnjpdgahjbijcaaMemB
import Derived.RegionTactic
namespace Go.Proofs.Ytnjpdgahjbijcaa
open Go.ChangeShapes Go.WideShapes Go.ChangeAt Go.RowKit

/-- what Do makes, tells, and why not -/
def doF (xs : List Int) (k c o n : Int) : List Int := if whyF xs.length k c o n = 0 then madeF xs k c o n else xs
def toldF (xs : List Int) (k c o n : Int) : Int × Bool := if whyF xs.length k c o n = 0 then (xs.getD c.toNat 0, wentF xs k c o) else (0, false)

/-- as DoPost, and what was made lies in a row of the call's own -/
def DoOwn (w : World) (xs : List Int) (k c o n : Int) (e : Ending) (w' : World) : Prop :=
  ∃ p cap, e = .returned (.tuple #[.agg #[.slice p (doF xs k c o n).length cap], .agg #[.int .i64 (toldF xs k c o n).1, .bool (toldF xs k c o n).2], .int .i64 (whyF xs.length k c o n)]) ∧
    Ints w' p (doF xs k c o n) ∧ Below w.heap.size w w' ∧ (whyF xs.length k c o n = 0 → ∃ g, p = some ⟨g, 0, none⟩ ∧ w.heap.size ≤ g ∧ g < w'.heap.size)

def DoPost (w : World) (xs : List Int) (k c o n : Int) (e : Ending) (w' : World) : Prop :=
  ∃ p cap, e = .returned (.tuple #[.agg #[.slice p (doF xs k c o n).length cap], .agg #[.int .i64 (toldF xs k c o n).1, .bool (toldF xs k c o n).2], .int .i64 (whyF xs.length k c o n)]) ∧
    Ints w' p (doF xs k c o n) ∧ Below w.heap.size w w'

set_option maxHeartbeats 2000000 in
theorem do_own (p : Option Addr) (xs : List Int) (cap : Nat) (k c o n : Int) (w : World) (hx : Ints w p xs) (hl : xs.length ≤ 1000000) (hn : In64 n) :
    Calls Try.prog 11 #[.agg #[.slice p xs.length cap], .agg #[.int .i64 k, .int .i64 c, .int .i64 o, .int .i64 n]] w (DoOwn w xs k c o n) := by
  by_cases hw : whyF xs.length k c o n = 0
  · go_enter Try.func11, Try.ntmps11
    go_wp2_with fail
    refine (why_any _ _ _ _ _ _ _ _).mono ?_
    rintro e w1 ⟨rfl, hb1⟩
    have HW := Lib.hid hw
    rw [hw]
    clear hw
    have hsz := hb1.size
    simp [go_sem] at hsz
    have c0 : w1.cell? ⟨w.heap.size, 0, none⟩ = some (.slice p xs.length cap) := by rw [hb1.cell (p := ⟨w.heap.size, 0, none⟩) (by simp [go_sem])]; simp [go_sem]
    have hb0 : Below w.heap.size w w1 := (((((Below.refl _ _).alloc (Nat.le_refl _) _).alloc (by simp [go_sem]) _).alloc (by simp [go_sem]; omega) _).alloc (by simp [go_sem]; omega) _).trans (hb1.mono (by simp [go_sem]; omega))
    go_wp2_with fail
    refine (clone_any p xs cap _ (hx.later hb0) hl).mono ?_
    rintro e w2 ⟨g, rfl, hown, hb2⟩
    have hg := hown.lt
    have d1 : ∀ j v, (w1.cell? ⟨w.heap.size + 1, j, none⟩ = some v) → w2.cell? ⟨w.heap.size + 1, j, none⟩ = some v := fun j v h => by rw [hb2.cell (p := ⟨w.heap.size + 1, j, none⟩) (by show w.heap.size + 1 < _; omega)]; exact h
    have e0 : w2.cell? ⟨w.heap.size + 1, 0, none⟩ = some (.int .i64 k) := d1 _ _ (by rw [hb1.cell (p := ⟨w.heap.size + 1, 0, none⟩) (by simp [go_sem])]; simp [go_sem])
    have e1 : w2.cell? ⟨w.heap.size + 1, 1, none⟩ = some (.int .i64 c) := d1 _ _ (by rw [hb1.cell (p := ⟨w.heap.size + 1, 1, none⟩) (by simp [go_sem])]; simp [go_sem])
    have e2 : w2.cell? ⟨w.heap.size + 1, 2, none⟩ = some (.int .i64 o) := d1 _ _ (by rw [hb1.cell (p := ⟨w.heap.size + 1, 2, none⟩) (by simp [go_sem])]; simp [go_sem])
    have e3 : w2.cell? ⟨w.heap.size + 1, 3, none⟩ = some (.int .i64 n) := d1 _ _ (by rw [hb1.cell (p := ⟨w.heap.size + 1, 3, none⟩) (by simp [go_sem])]; simp [go_sem])
    have hg2 : g < w2.heap.size := hg.2
    have s1 : w.heap.size + 1 < w2.heap.size := by omega
    have s2 : w.heap.size + 1 + 1 < w2.heap.size := by omega
    have s3 : w.heap.size + 1 + 1 + 1 < w2.heap.size := by omega
    clear d1
    go_wp2_with fail
    refine (touch_any w1.heap.size g xs k c o n _ (hown.alloc _) ?_ ?_ hn).mono ?_
    · have := HW.out; unfold whyF at this; cases h : rightB k c o n <;> simp [h] at this; rfl
    · have := HW.out; unfold whyF at this; cases h : rightB k c o n <;> simp [h] at this; omega
    rintro e w3 ⟨rfl, hown3, hb3⟩
    have q1 : w3.cell? ⟨w2.heap.size, 0, none⟩ = some (.slice (some ⟨g, 0, none⟩) xs.length xs.length) := hb3.cell (by simp [go_sem]) (by simp; omega)
    have hb30 : Below w.heap.size w w3 := (hb0.trans (hb2.mono hb0.size)).trans (((Below.refl _ _).alloc (by have := hb0.size; omega) _).grown hb3 (by have := hb0.size; simp [go_sem]; omega) (by intro k hk; injection hk with hk; have := hb0.size; omega))
    have q2 : ∀ b j, b < w1.heap.size → w3.cell? ⟨b, j, none⟩ = w1.cell? ⟨b, j, none⟩ := fun b j hb => by
      rw [World.cell?_of_block (hb3.block b (by simp [go_sem]; omega) (by simp; omega)), ← hb2.cell (p := ⟨b, j, none⟩) hb]
      exact World.cell?_of_block (Below.heap_alloc w2 _ b (by omega))
    have q3 : ∀ b j, b < w1.heap.size → w3.frozen? ⟨b, j, none⟩ = w1.frozen? ⟨b, j, none⟩ := fun b j hb => by
      rw [World.frozen?_of_block (hb3.block b (by simp [go_sem]; omega) (by simp; omega)), ← hb2.frozen (p := ⟨b, j, none⟩) hb]
      exact World.frozen?_of_block (Below.heap_alloc w2 _ b (by omega))
    have hs3 : w2.heap.size < w3.heap.size := by have := hb3.size; simp [go_sem] at this; omega
    have r2 : w3.cell? ⟨w.heap.size + 1 + 1, 0, none⟩ = some (.slice none 0 0) := by rw [q2 _ _ (by omega), hb1.cell (p := ⟨w.heap.size + 2, 0, none⟩) (by simp [go_sem])]; simp [go_sem]
    have r3 : w3.cell? ⟨w.heap.size + 1 + 1 + 1, 0, none⟩ = some (.int .i64 0) := by rw [q2 _ _ (by omega), hb1.cell (p := ⟨w.heap.size + 3, 0, none⟩) (by simp [go_sem])]; simp [go_sem]
    have r4 : w3.cell? ⟨w.heap.size + 1 + 1 + 1, 1, none⟩ = some (.bool false) := by rw [q2 _ _ (by omega), hb1.cell (p := ⟨w.heap.size + 3, 1, none⟩) (by simp [go_sem])]; simp [go_sem]
    have g2 : w3.frozen? ⟨w.heap.size + 1 + 1, 0, none⟩ = false := by rw [q3 _ _ (by omega), hb1.frozen (p := ⟨w.heap.size + 2, 0, none⟩) (by simp [go_sem])]; simp [go_sem]
    have g3 : w3.frozen? ⟨w.heap.size + 1 + 1 + 1, 0, none⟩ = false := by rw [q3 _ _ (by omega), hb1.frozen (p := ⟨w.heap.size + 3, 0, none⟩) (by simp [go_sem])]; simp [go_sem]
    have g4 : w3.frozen? ⟨w.heap.size + 1 + 1 + 1, 1, none⟩ = false := by rw [q3 _ _ (by omega), hb1.frozen (p := ⟨w.heap.size + 3, 1, none⟩) (by simp [go_sem])]; simp [go_sem]
    have z2 : w.heap.size + 1 + 1 < w3.heap.size := by omega
    have z3 : w.heap.size + 1 + 1 + 1 < w3.heap.size := by omega
    clear q2 q3 e0 e1 e2 e3 c0 hb1 hb2
    go_wp2_with fail
    have hb3w : Below w.heap.size w (((((w3.setCell ⟨w.heap.size + 1 + 1, 0, none⟩ (.slice (some ⟨g, 0, none⟩) xs.length xs.length)).setCell ⟨w.heap.size + 1 + 1 + 1, 0, none⟩ (.int .i64 (xs.getD c.toNat 0))).setCell ⟨w.heap.size + 1 + 1 + 1, 1, none⟩ (.bool (wentF xs k c o))).alloc (Obj.cells #[.int .i64 (xs.getD c.toNat 0), .bool (wentF xs k c o)] 29)).drew) :=
      ((((hb30.setCell (by simp; omega) _).setCell (by simp; omega) _).setCell (by simp; omega) _).alloc (by have := hb30.size; simp [go_sem]; omega) _).drew
    have how : OwnInts (((((w3.setCell ⟨w.heap.size + 1 + 1, 0, none⟩ (.slice (some ⟨g, 0, none⟩) xs.length xs.length)).setCell ⟨w.heap.size + 1 + 1 + 1, 0, none⟩ (.int .i64 (xs.getD c.toNat 0))).setCell ⟨w.heap.size + 1 + 1 + 1, 1, none⟩ (.bool (wentF xs k c o))).alloc (Obj.cells #[.int .i64 (xs.getD c.toNat 0), .bool (wentF xs k c o)] 29)).drew) w1.heap.size g (madeF xs k c o n) :=
      ((((hown3.far (by simp; omega) _).far (by simp; omega) _).far (by simp; omega) _).alloc _).drew
    have hlen := madeF_length xs k c o n
    have hd : doF xs k c o n = madeF xs k c o n := by unfold doF; rw [if_pos HW.out]
    have ht : toldF xs k c o n = (xs.getD c.toNat 0, wentF xs k c o) := by unfold toldF; rw [if_pos HW.out]
    have HB := Lib.hid hb3w
    have HO := Lib.hid how
    have HL := Lib.hid hlen
    have HD := Lib.hid hd
    have HT := Lib.hid ht
    clear hb3w how hlen hd ht
    generalize hhad : xs[c.toNat]?.getD 0 = had at *
    have HH := Lib.hid (show xs.getD c.toNat 0 = had by rw [List.getD_eq_getElem?_getD]; exact hhad)
    clear hhad
    go_region
    all_goals go_wp2_with fail
    refine bodyPost_ret (v := .tuple #[.agg #[.slice (some ⟨g, 0, none⟩) xs.length xs.length], .agg #[.int .i64 had, .bool (wentF xs k c o)], .int .i64 0]) (by simp [results, Try.results11, go_sem, r2, r3, r4, g2, g3, g4, z2, z3]) rfl ?_
    rw [← HH.out]
    refine ⟨some ⟨g, 0, none⟩, xs.length, by rw [HD.out, HT.out, HL.out, HW.out], by rw [HD.out]; exact HO.out.ints, HB.out, fun _ => ⟨g, rfl, by have := hown.lt; have := hb0.size; omega, HO.out.lt.2⟩⟩
  · have hw2 : (whyF xs.length k c o n == 0) = false := by simpa using hw
    go_enter Try.func11, Try.ntmps11
    go_wp2_with fail
    refine (why_any _ _ _ _ _ _ _ _).mono ?_
    rintro e w1 ⟨rfl, hb1⟩
    have hsz := hb1.size
    simp [go_sem] at hsz
    have c0 : w1.cell? ⟨w.heap.size, 0, none⟩ = some (.slice p xs.length cap) := by rw [hb1.cell (p := ⟨w.heap.size, 0, none⟩) (by simp [go_sem])]; simp [go_sem]
    have c2 : w1.cell? ⟨w.heap.size + 2, 0, none⟩ = some (.slice none 0 0) := by rw [hb1.cell (p := ⟨w.heap.size + 2, 0, none⟩) (by simp [go_sem])]; simp [go_sem]
    have f2 : w1.frozen? ⟨w.heap.size + 2, 0, none⟩ = false := by rw [hb1.frozen (p := ⟨w.heap.size + 2, 0, none⟩) (by simp [go_sem])]; simp [go_sem]
    have c3 : w1.cell? ⟨w.heap.size + 3, 0, none⟩ = some (.int .i64 0) := by rw [hb1.cell (p := ⟨w.heap.size + 3, 0, none⟩) (by simp [go_sem])]; simp [go_sem]
    have c31 : w1.cell? ⟨w.heap.size + 3, 1, none⟩ = some (.bool false) := by rw [hb1.cell (p := ⟨w.heap.size + 3, 1, none⟩) (by simp [go_sem])]; simp [go_sem]
    have f3 : w1.frozen? ⟨w.heap.size + 3, 0, none⟩ = false := by rw [hb1.frozen (p := ⟨w.heap.size + 3, 0, none⟩) (by simp [go_sem])]; simp [go_sem]
    have f31 : w1.frozen? ⟨w.heap.size + 3, 1, none⟩ = false := by rw [hb1.frozen (p := ⟨w.heap.size + 3, 1, none⟩) (by simp [go_sem])]; simp [go_sem]
    go_wp2_with fail
    have hb0 : Below w.heap.size w w1 := (((((Below.refl _ _).alloc (Nat.le_refl _) _).alloc (by simp [go_sem]) _).alloc (by simp [go_sem]; omega) _).alloc (by simp [go_sem]; omega) _).trans (hb1.mono (by simp [go_sem]; omega))
    refine bodyPost_ret (v := .tuple #[.agg #[.slice p xs.length cap], .agg #[.int .i64 0, .bool false], .int .i64 (whyF xs.length k c o n)]) (by simp [results, Try.results11, go_sem, c2, f2, c3, c31, f3, f31]) rfl ?_
    have hd : doF xs k c o n = xs := by unfold doF; rw [if_neg hw]
    have ht : toldF xs k c o n = (0, false) := by unfold toldF; rw [if_neg hw]
    have hbe : Below w.heap.size w (((w1.setCell ⟨w.heap.size + 2, 0, none⟩ (.slice p xs.length cap)).setCell ⟨w.heap.size + 3, 0, none⟩ (.int .i64 0)).setCell ⟨w.heap.size + 3, 1, none⟩ (.bool false)) := ((hb0.setCell (by simp) _).setCell (by simp) _).setCell (by simp) _
    refine ⟨p, cap, by rw [hd, ht], by rw [hd]; exact hx.later hbe, hbe, fun h => absurd h hw⟩

theorem do_any (p : Option Addr) (xs : List Int) (cap : Nat) (k c o n : Int) (w : World) (hx : Ints w p xs) (hl : xs.length ≤ 1000000) (hn : In64 n) :
    Calls Try.prog 11 #[.agg #[.slice p xs.length cap], .agg #[.int .i64 k, .int .i64 c, .int .i64 o, .int .i64 n]] w (DoPost w xs k c o n) :=
  (do_own p xs cap k c o n w hx hl hn).mono fun _ _ ⟨q, cq, h1, h2, h3, _⟩ => ⟨q, cq, h1, h2, h3⟩

end Go.Proofs.Ytnjpdgahjbijcaa
