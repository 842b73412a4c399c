/-
  WIRE: the document's examples, with which each statement begins.
-/
import Derived.Test.YtbfbfpjfmdannaaWireG
namespace Go.Proofs.Ytbfbfpjfmdannaa
open Go.ChangeShapes Go.WideShapes Go.ChangeAt Go.RowKit Go.Lib

/-- a slice of bytes that a call made -/
def SlicePost (w : World) (bs : List Int) (n : Nat) (e : Ending) (w' : World) : Prop :=
  ∃ p cap, e = .returned (.slice p n cap) ∧ Byts w' p bs ∧ n ≤ cap ∧ (p = none → cap = 0) ∧ Below w.heap.size w w'

theorem OwnB.fits {w : World} {base : Nat} {v : Value} {bs : List Int} (h : OwnB w base v bs) :
    ∃ p cap, v = .slice p bs.length cap ∧ Byts w p bs ∧ bs.length ≤ cap ∧ (p = none → cap = 0) := by
  rcases h.1.2 with ⟨hv, h0⟩ | ⟨g, cap', cur, hv, hb, hg, hnc, _⟩
  · have : bs = [] := List.length_eq_zero_iff.1 h0
    subst this
    exact ⟨none, 0, hv, Byts.nil _ _, Nat.le_refl _, fun _ => rfl⟩
  · refine ⟨_, cap', hv, ?_, hnc, fun h => by cases h⟩
    have h1 := h.1
    rw [hv] at h1
    exact (Byts.of_own h1 h.2).1

theorem PutPost.slice {w : World} {bs cs : List Int} {n : Nat} {e : Ending} {w' : World} (h : PutPost w w.heap.size bs e w') (hb : bs = cs) (hn : cs.length = n) : SlicePost w cs n e w' := by
  subst hb hn
  obtain ⟨v, rfl, ho, hb⟩ := h
  obtain ⟨p, cap, rfl, hx, h1, h2⟩ := ho.fits
  exact ⟨p, cap, rfl, hx, h1, h2, hb⟩

theorem byts_new (w : World) (xs : List Int) (hr : ∀ x ∈ xs, In8 x) : Byts (w.alloc (Obj.cells (xs.map (Value.int .u8)).toArray 5)) (some ⟨w.heap.size, 0, none⟩) xs := Byts.of_blk (Blk.made _ _ _) hr
theorem ints_new (w : World) (xs : List Int) (hr : ∀ x ∈ xs, In64 x) : Ints (w.alloc (Obj.cells (xs.map (Value.int .i64)).toArray 3)) (some ⟨w.heap.size, 0, none⟩) xs := Ints.of_blk (Blk.made _ _ _) hr

theorem ex_p1 : putF (zig (-64)) = [127] := by rw [show zig (-64) = 127 from by decide]; exact putF_low (by omega)
theorem ex_p2 : putF (zig 64) = [128, 1] := by rw [show zig 64 = 128 from by decide, putF_high (by omega), putF_low (by omega)]; rfl
theorem ex_p3 : putF (zig 2) = [4] := by rw [show zig 2 = 4 from by decide]; exact putF_low (by omega)
theorem ex_p4 : putF (zig 1) = [2] := by rw [show zig 1 = 2 from by decide]; exact putF_low (by omega)
theorem ex_p5 : putF (zig (-1)) = [1] := by rw [show zig (-1) = 1 from by decide]; exact putF_low (by omega)
theorem ex_p6 : putF (zig 131074) = [132, 128, 16] := by rw [show zig 131074 = 262148 from by decide, putF_high (by omega), putF_high (by omega), putF_low (by omega)]; rfl
theorem ex_g1 : getF [128, 1, 9] = (64, 2, 0) := by decide
theorem ex_g2 : getF [128, 0] = (0, 0, 3) := by decide
theorem ex_r1 : runF [4, 97, 98, 7] = some (1, 2) := by decide
theorem ex_n1 : numsG [4, 2, 1] = some ([1, -1], 3) := by decide
theorem ex_s1 : sumF [1, 2] = 393220 := by decide
theorem ex_s2 : sumF [1] = 131074 := by decide
theorem ex_t1 : strB ⟨#[97, 98]⟩ = [97, 98] := by decide
theorem ex_t2 : putF (zig (ByteArray.size ⟨#[97, 98]⟩)) ++ strB ⟨#[97, 98]⟩ = [4, 97, 98] := by rw [ex_t1, show ((ByteArray.size ⟨#[97, 98]⟩ : Nat) : Int) = 2 from rfl, ex_p3]; rfl
theorem ex_n2 : numsF [1, -1] = [4, 2, 1] := by
  unfold numsF rowF
  simp only [List.length_cons, List.length_nil, List.flatMap_cons, List.flatMap_nil]
  rw [show (((0 + 1 + 1 : Nat) : Int)) = 2 from rfl, ex_p3, ex_p4, ex_p5]; rfl
theorem ex_se : sealF [1] = [2, 1, 132, 128, 16] := by
  unfold sealF
  rw [ex_s2, ex_p6, show (([1] : List Int).length : Int) = 1 from rfl, ex_p4]; rfl
theorem ex_t3 : strOfNums (List.take 2 (List.drop 1 [4, 97, 98, 7])) = ⟨#[97, 98]⟩ := by decide

end Go.Proofs.Ytbfbfpjfmdannaa
