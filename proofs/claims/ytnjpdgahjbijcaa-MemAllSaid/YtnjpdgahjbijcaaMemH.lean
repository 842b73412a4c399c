/-
  MEM: the document's example.
-/
import Derived.Test.YtnjpdgahjbijcaaMemD
import Derived.Test.YtnjpdgahjbijcaaMemF
namespace Go.Proofs.Ytnjpdgahjbijcaa
open Go.ChangeShapes Go.WideShapes Go.ChangeAt Go.RowKit

/-- the example's accesses -/
def egL : List Acc := [⟨3, 0, 5, 7⟩, ⟨3, 0, 5, 7⟩, ⟨4, 0, 0, 3⟩, ⟨5, 0, 0, 1⟩, ⟨1, 0, 0, 0⟩]
theorem eg_why : whyTo 1 egL 5 = 0 := by decide
theorem eg_made : madeTo [5] egL 5 = [1] := by decide
theorem eg_told : toldTo [5] egL 5 = [(5, true), (7, false), (7, true), (10, true), (1, true)] := by decide +kernel

theorem Ints.cell1 {w : World} {b : Nat} {t : TypeId} {x : Int} (h : Blk w b t #[.int .i64 x]) (hx : In64 x) : Ints w (some ⟨b, 0, none⟩) [x] :=
  ⟨fun i hi => by
    obtain rfl : i = 0 := by simpa using hi
    exact ⟨b, 0, rfl, h.lt, h.cell 0⟩, fun y hy => by simp at hy; rw [hy]; exact hx⟩

set_option maxHeartbeats 4000000 in
theorem shown_any (w : World) :
    Calls Try.prog 10 #[] w fun e w' => e = .returned (.bool true) ∧ Below w.heap.size w w' := by
  have h5 : In64 5 := by unfold In64; omega
  go_enter Try.func10, Try.ntmps10
  go_wp2_with fail
  obtain ⟨W, hW⟩ : ∃ W, W = ((w.alloc (Obj.cells #[Value.int .i64 5] 3)).alloc (Obj.cells #[Value.slice (some ⟨w.heap.size, 0, none⟩) 1 1] 24)).alloc
    (Obj.cells #[Value.int .i64 3, Value.int .i64 0, Value.int .i64 5, Value.int .i64 7, Value.int .i64 3, Value.int .i64 0, Value.int .i64 5, Value.int .i64 7, Value.int .i64 4, Value.int .i64 0, Value.int .i64 0, Value.int .i64 3, Value.int .i64 5, Value.int .i64 0, Value.int .i64 0, Value.int .i64 1, Value.int .i64 1, Value.int .i64 0, Value.int .i64 0, Value.int .i64 0] 26) := ⟨_, rfl⟩
  have hbW : Below w.heap.size w W := by rw [hW]; exact bel_alloc (bel_alloc (bel_alloc (Below.refl _ _) _) _) _
  have hs : W.heap.size = w.heap.size + 3 := by rw [hW]; simp [go_sem]
  have B0 : Blk W w.heap.size 3 #[Value.int .i64 5] := by rw [hW]; exact ((Blk.made _ _ _).alloc _).alloc _
  have B1 : Blk W (w.heap.size + 1) 24 #[Value.slice (some ⟨w.heap.size, 0, none⟩) 1 1] := by
    rw [hW]; have := (Blk.made (w.alloc (Obj.cells #[Value.int .i64 5] 3)) 24 #[Value.slice (some ⟨w.heap.size, 0, none⟩) 1 1]); simp only [World.size_alloc] at this; exact this.alloc _
  have hx : Ints W (some ⟨w.heap.size, 0, none⟩) [5] := Ints.cell1 B0 h5
  have c0 : W.cell? ⟨w.heap.size + 1 + 1, 0, none⟩ = some (.int .i64 3) := by rw [hW]; simp [go_sem]
  have c1 : W.cell? ⟨w.heap.size + 1 + 1, 1, none⟩ = some (.int .i64 0) := by rw [hW]; simp [go_sem]
  have c2 : W.cell? ⟨w.heap.size + 1 + 1, 2, none⟩ = some (.int .i64 5) := by rw [hW]; simp [go_sem]
  have c3 : W.cell? ⟨w.heap.size + 1 + 1, 3, none⟩ = some (.int .i64 7) := by rw [hW]; simp [go_sem]
  have ha : Accs W (some ⟨w.heap.size + 1 + 1, 0, none⟩) egL := by
    refine ⟨fun i hi => ⟨w.heap.size + 1 + 1, 0, rfl, by omega, ?_⟩, fun a ha => ?_⟩
    · simp only [egL, List.length_cons, List.length_nil] at hi
      rcases i with _ | _ | _ | _ | _ | i
      all_goals first | omega | (rw [hW]; simp [egL, go_sem]; done)
    · simp only [egL, List.mem_cons, List.not_mem_nil, or_false] at ha
      rcases ha with rfl | rfl | rfl | rfl | rfl <;> (unfold In64; simp)
  rw [← hW]
  clear hW
  refine (all_any _ _ [5] 1 5 egL W hx (by simp) ha (by simp [egL])).mono ?_
  rintro e w1 ⟨p1, cp1, q1, n1, cq1, rfl, hb1, hif⟩
  rw [show egL.length = 5 from rfl, show [(5 : Int)].length = 1 from rfl, eg_why, eg_made, eg_told] at *
  rw [if_pos rfl] at hif
  obtain ⟨hi1, rfl, hc1⟩ := hif
  obtain ⟨b, off, rfl, hbq, hcq⟩ := hc1.opened (by decide)
  have r0 := hcq 0 _ rfl
  have r1 := hcq 1 _ rfl
  have r2 := hcq 2 _ rfl
  have r3 := hcq 3 _ rfl
  have r4 := hcq 4 _ rfl
  have r5 := hcq 5 _ rfl
  have r6 := hcq 6 _ rfl
  have r8 := hcq 8 _ rfl
  simp only [Nat.add_zero] at r0
  have D1 := B1.later hb1
  have m1 : w1.cell? ⟨w.heap.size + 1, 0, none⟩ = some (.slice (some ⟨w.heap.size, 0, none⟩) 1 1) := D1.cell 0
  have l1 := D1.lt
  have hx1 := hx.later hb1
  have d0 : w1.cell? ⟨w.heap.size + 1 + 1, 0, none⟩ = some (.int .i64 3) := by rw [hb1.cell (p := ⟨w.heap.size + 1 + 1, 0, none⟩) (by show w.heap.size + 1 + 1 < _; omega)]; exact c0
  have d1 : w1.cell? ⟨w.heap.size + 1 + 1, 1, none⟩ = some (.int .i64 0) := by rw [hb1.cell (p := ⟨w.heap.size + 1 + 1, 1, none⟩) (by show w.heap.size + 1 + 1 < _; omega)]; exact c1
  have d2 : w1.cell? ⟨w.heap.size + 1 + 1, 2, none⟩ = some (.int .i64 5) := by rw [hb1.cell (p := ⟨w.heap.size + 1 + 1, 2, none⟩) (by show w.heap.size + 1 + 1 < _; omega)]; exact c2
  have d3 : w1.cell? ⟨w.heap.size + 1 + 1, 3, none⟩ = some (.int .i64 7) := by rw [hb1.cell (p := ⟨w.heap.size + 1 + 1, 3, none⟩) (by show w.heap.size + 1 + 1 < _; omega)]; exact c3
  have s2 : w.heap.size + 1 + 1 < w1.heap.size := by have := hb1.size; omega
  have hbw1 := below_trans hbW hb1
  clear hcq hc1 c0 c1 c2 c3 ha hx B0 B1 hs hbW hb1
  have hf : ∀ wx, Below w1.heap.size w1 wx → wx.cell? ⟨b, off, none⟩ = some (.int .i64 5) ∧ wx.cell? ⟨b, off + 1, none⟩ = some (.bool true) ∧ wx.cell? ⟨b, off + 2, none⟩ = some (.int .i64 7) ∧ wx.cell? ⟨b, off + 3, none⟩ = some (.bool false) ∧ wx.cell? ⟨b, off + 4, none⟩ = some (.int .i64 7) ∧ wx.cell? ⟨b, off + 5, none⟩ = some (.bool true) ∧ wx.cell? ⟨b, off + 6, none⟩ = some (.int .i64 10) ∧ wx.cell? ⟨b, off + 8, none⟩ = some (.int .i64 1) ∧ wx.cell? ⟨w.heap.size + 1 + 1, 0, none⟩ = some (.int .i64 3) ∧ wx.cell? ⟨w.heap.size + 1 + 1, 1, none⟩ = some (.int .i64 0) ∧ wx.cell? ⟨w.heap.size + 1 + 1, 2, none⟩ = some (.int .i64 5) ∧ wx.cell? ⟨w.heap.size + 1 + 1, 3, none⟩ = some (.int .i64 7) ∧ wx.cell? ⟨w.heap.size + 1, 0, none⟩ = some (.slice (some ⟨w.heap.size, 0, none⟩) 1 1) ∧ Ints wx (some ⟨w.heap.size, 0, none⟩) [5] ∧ Ints wx p1 [1] := by
    intro wx hb
    have hq : ∀ (a : Addr) (v : Value), w1.cell? a = some v → wx.cell? a = some v := fun a v h => by rw [hb.cell (World.block_lt_of_cell? w1 a h)]; exact h
    exact ⟨hq _ _ r0, hq _ _ r1, hq _ _ r2, hq _ _ r3, hq _ _ r4, hq _ _ r5, hq _ _ r6, hq _ _ r8, hq _ _ d0, hq _ _ d1, hq _ _ d2, hq _ _ d3, hq _ _ m1, hx1.later hb, hi1.later hb⟩
  have HF := Lib.hid hf
  clear hf r0 r1 r2 r3 r4 r5 r6 r8 d0 d1 d2 d3 m1 hx1 hi1 D1
  obtain ⟨m1, -⟩ : w1.cell? ⟨w.heap.size + 1, 0, none⟩ = some (.slice (some ⟨w.heap.size, 0, none⟩) 1 1) ∧ True := by obtain ⟨_, _, _, _, _, _, _, _, _, _, _, _, h, _⟩ := HF.out w1 (Below.refl _ _); exact ⟨h, trivial⟩
  go_wp2_with fail
  have hb1a : Below w1.heap.size w1 (w1.alloc (Obj.cells #[Value.slice p1 1 cp1] 24)) := bel_alloc (Below.refl _ _) _
  refine (do_any _ [5] 1 1 1 0 0 _ (by obtain ⟨_, _, _, _, _, _, _, _, _, _, _, _, _, h, _⟩ := HF.out _ hb1a; exact h) (by simp) (by unfold In64; omega)).mono ?_
  rintro e w2 ⟨p2, cp2, rfl, -, hb2⟩
  have t1 : whyF [(5 : Int)].length 1 1 0 0 = 12 := by decide
  have t2 : doF [5] 1 1 0 0 = [5] := by decide
  have t3 : toldF [5] 1 1 0 0 = (0, false) := by decide
  rw [t1, t2, t3]
  clear t1 t2 t3
  have hbw2 := below_of w1 hb2 hb1a
  have hbox : ∀ wx, Below w2.heap.size w2 wx → wx.cell? ⟨w1.heap.size, 0, none⟩ = some (.slice p1 1 cp1) := fun wx h => by
    rw [h.cell (p := ⟨w1.heap.size, 0, none⟩) (by have := hb2.size; simp [go_sem] at this; show w1.heap.size < _; omega), hb2.cell (p := ⟨w1.heap.size, 0, none⟩) (by simp [go_sem])]; simp [go_sem]
  have HBOX := Lib.hid hbox
  clear hbox m1
  obtain ⟨m1, -⟩ : w2.cell? ⟨w.heap.size + 1, 0, none⟩ = some (.slice (some ⟨w.heap.size, 0, none⟩) 1 1) ∧ True := by obtain ⟨_, _, _, _, _, _, _, _, _, _, _, _, h, _⟩ := HF.out w2 hbw2; exact ⟨h, trivial⟩
  have s3 : w.heap.size + 1 < w2.heap.size := by have := hbw2.size; omega
  have s30 : w.heap.size < w2.heap.size := by omega
  go_wp2_with fail
  have hb2a : Below w2.heap.size w2 ((w2.alloc (Obj.cells #[Value.slice p2 1 cp2] 24)).alloc (Obj.cells #[Value.int .i64 0, Value.bool false] 29)) := bel_alloc (bel_alloc (Below.refl _ _) _) _
  refine (do_any _ [5] 1 1 0 0 1 _ (by obtain ⟨_, _, _, _, _, _, _, _, _, _, _, _, _, h, _⟩ := HF.out _ (below_trans hbw2 hb2a); exact h) (by simp) (by unfold In64; omega)).mono ?_
  rintro e w3 ⟨p3, cp3, rfl, -, hb3⟩
  have t1 : whyF [(5 : Int)].length 1 0 0 1 = 1 := by decide
  have t2 : doF [5] 1 0 0 1 = [5] := by decide
  have t3 : toldF [5] 1 0 0 1 = (0, false) := by decide
  rw [t1, t2, t3]
  clear t1 t2 t3
  have hb23 := below_of w2 hb3 hb2a
  have hbw3 := below_trans hbw2 hb23
  clear m1
  obtain ⟨r0, r1, r2, r3, r4, r5, r6, r8, d0, d1, d2, d3, m1, hx3, hi3⟩ := HF.out w3 hbw3
  have n1 := HBOX.out w3 hb23
  have s4 : w.heap.size + 1 < w3.heap.size := by have := hbw3.size; omega
  have s40 : w.heap.size < w3.heap.size := by omega
  have s5 : w.heap.size + 1 + 1 < w3.heap.size := by have := hbw3.size; omega
  have s6 : b < w3.heap.size := by have := hbw3.size; omega
  have s7 : w1.heap.size < w3.heap.size := by have := hb2.size; simp [go_sem] at this; have := hb23.size; omega
  go_wp2_with fail
  obtain ⟨W3, hW3⟩ : ∃ W3, W3 = (w3.alloc (Obj.cells #[Value.slice p3 1 cp3] 24)).alloc (Obj.cells #[Value.int .i64 0, Value.bool false] 29) := ⟨_, rfl⟩
  have hbW3 : Below w3.heap.size w3 W3 := by rw [hW3]; exact bel_alloc (bel_alloc (Below.refl _ _) _) _
  have hI1 : Ints (W3.alloc (Obj.cells #[Value.int .i64 1] 3)) (some ⟨W3.heap.size, 0, none⟩) [1] := Ints.cell1 (Blk.made _ _ _) (by unfold In64; omega)
  have hW3s : W3.heap.size = w3.heap.size + 1 + 1 := by rw [hW3]; simp [go_sem]
  have hI2 := hi3.later (bel_alloc hbW3 (Obj.cells #[Value.int .i64 1] 3))
  rw [hW3s, hW3] at hI1
  rw [hW3] at hI2
  refine (same_any _ _ [1] [1] _ _ _ hI2 hI1 (by simp) (by simp)).mono ?_
  rintro e w4 ⟨rfl, hb4⟩
  rw [show decide (([1] : List Int) = [1]) = true from by decide]
  rw [← hW3] at hb4
  have hb34 := below_of w3 hb4 (bel_alloc hbW3 _)
  have hbw4 := below_trans hbw3 hb34
  clear r0 r1 r2 r3 r4 r5 r6 r8 d0 d1 d2 d3 m1 n1 hI1 hI2 hx3 hi3 s4 s5 s6 s7 s40
  obtain ⟨r0, r1, r2, r3, r4, r5, r6, r8, d0, d1, d2, d3, m1, hx3, hi3⟩ := HF.out w4 hbw4
  have n1 := HBOX.out w4 (below_trans hb23 hb34)
  have s4 : w.heap.size + 1 < w4.heap.size := by have := hbw4.size; omega
  have s5 : w.heap.size + 1 + 1 < w4.heap.size := by have := hbw4.size; omega
  clear hW3 hW3s
  go_wp2_with fail
  refine (right_any _ _ _ _ _).mono ?_
  rintro e w5 ⟨rfl, hb5⟩
  rw [show rightB 3 0 5 7 = true from by decide]
  have hbw5 := below_trans hbw4 hb5
  clear r0 r1 r2 r3 r4 r5 r6 r8 d0 d1 d2 d3 m1 n1 hx3 hi3 s4 s5
  obtain ⟨r0, r1, r2, r3, r4, r5, r6, r8, d0, d1, d2, d3, m1, hx3, hi3⟩ := HF.out w5 hbw5
  have n1 := HBOX.out w5 (below_trans hb23 (below_trans hb34 hb5))
  go_wp2_with fail
  refine (same_any _ _ [5] [1] _ _ _ hx3 hi3 (by simp) (by simp)).mono ?_
  rintro e w6 ⟨rfl, hb6⟩
  rw [show decide (([5] : List Int) = [1]) = false from by decide]
  go_wp2_with fail
  go_ret
  exact ⟨rfl, below_trans hbw1 (below_trans hbw5 hb6)⟩

end Go.Proofs.Ytnjpdgahjbijcaa
