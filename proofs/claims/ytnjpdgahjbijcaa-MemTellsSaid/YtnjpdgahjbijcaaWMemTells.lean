/-
  MEM: the walk of the law MemTells.
-/
import Derived.Test.YtnjpdgahjbijcaaMemE
import Derived.Test.YtnjpdgahjbijcaaMemH
namespace Go.Proofs.Ytnjpdgahjbijcaa
open Go.ChangeShapes Go.WideShapes Go.ChangeAt Go.RowKit

set_option maxHeartbeats 4000000 in
theorem walkMemTells (a0 : Option Addr) (len0 cap0 : Nat) (z0 : List Int) (a1 : Option Addr) (len1 cap1 : Nat) (z1 : List Int) (k c o n : Int) (w : World) (h0 : IsRow .i64 w a0 len0 cap0 z0) (h1 : IsRow .i64 w a1 len1 cap1 z1)
    (_hk : -9223372036854775808 ≤ k ∧ k ≤ 9223372036854775807) (_hc : -9223372036854775808 ≤ c ∧ c ≤ 9223372036854775807) (_ho : -9223372036854775808 ≤ o ∧ o ≤ 9223372036854775807) (hn : -9223372036854775808 ≤ n ∧ n ≤ 9223372036854775807) :
    Calls Try.prog 3 #[.agg #[.slice a0 len0 cap0], .agg #[.slice a1 len1 cap1], .agg #[.int .i64 k, .int .i64 c, .int .i64 o, .int .i64 n]] w fun e w' => e = .returned (.bool true) ∧ Below w.heap.size w w' := by
  obtain ⟨hx, hxl, hx2⟩ := Ints.of_row h0
  obtain ⟨hy, hyl, hy2⟩ := Ints.of_row h1
  generalize z0.take len0 = xs at hx hxl
  generalize z1.take len1 = ys at hy hyl
  subst hxl hyl
  clear h0 h1
  obtain ⟨W, hW⟩ : ∃ W, W = ((w.alloc (Obj.cells #[Value.slice a0 xs.length cap0] 24)).alloc (Obj.cells #[Value.slice a1 ys.length cap1] 24)).alloc (Obj.cells #[Value.int .i64 k, Value.int .i64 c, Value.int .i64 o, Value.int .i64 n] 26) := ⟨_, rfl⟩
  have hbW : Below w.heap.size w W := by rw [hW]; exact bel_alloc (bel_alloc (bel_alloc (Below.refl _ _) _) _) _
  have hs : W.heap.size = w.heap.size + 3 := by rw [hW]; simp [go_sem]
  have hf : ∀ wx, Below W.heap.size W wx → wx.cell? ⟨w.heap.size, 0, none⟩ = some (.slice a0 xs.length cap0) ∧ wx.cell? ⟨w.heap.size + 1, 0, none⟩ = some (.slice a1 ys.length cap1) ∧ wx.cell? ⟨w.heap.size + 1 + 1, 0, none⟩ = some (.int .i64 k) ∧ wx.cell? ⟨w.heap.size + 1 + 1, 1, none⟩ = some (.int .i64 c)
      ∧ wx.cell? ⟨w.heap.size + 1 + 1, 2, none⟩ = some (.int .i64 o) ∧ wx.cell? ⟨w.heap.size + 1 + 1, 3, none⟩ = some (.int .i64 n) ∧ Ints wx a0 xs ∧ Ints wx a1 ys ∧ w.heap.size < wx.heap.size ∧ w.heap.size + 1 < wx.heap.size ∧ w.heap.size + 1 + 1 < wx.heap.size := by
    intro wx hb
    have hq : ∀ b j v, b < w.heap.size + 3 → W.cell? ⟨b, j, none⟩ = some v → wx.cell? ⟨b, j, none⟩ = some v := fun b j v hlt h => by rw [hb.cell (p := ⟨b, j, none⟩) (by show b < _; omega)]; exact h
    have := hb.size
    exact ⟨hq _ _ _ (by omega) (by rw [hW]; simp [go_sem]), hq _ _ _ (by omega) (by rw [hW]; simp [go_sem]), hq _ _ _ (by omega) (by rw [hW]; simp [go_sem]), hq _ _ _ (by omega) (by rw [hW]; simp [go_sem]), hq _ _ _ (by omega) (by rw [hW]; simp [go_sem]), hq _ _ _ (by omega) (by rw [hW]; simp [go_sem]),
      (hx.later hbW).later hb, (hy.later hbW).later hb, by omega, by omega, by omega⟩
  have HF := Lib.hid hf
  have HW := Lib.hid hW
  clear hf hW hs hx hy
  by_cases hl : xs.length ≤ 200
  · by_cases hl2 : ys.length ≤ 200
    · have g1 : ¬ ((200 : Int) < xs.length) := by omega
      have g2 : ¬ ((200 : Int) < ys.length) := by omega
      go_enter Try.func3, Try.ntmps3
      go_wp2_with fail
      rw [← HW.out]
      refine (shown_any _).mono ?_
      rintro e w1 ⟨rfl, hb1⟩
      obtain ⟨c0, c1, c2, c3, c4, c5, i0, i1, s0, s1, s2⟩ := HF.out w1 hb1
      go_wp2_with fail
      have hdl : (doF xs k c o n).length ≤ 1000000 := by
        unfold doF; split
        · rw [madeF_length]; omega
        · omega
      have hR : ∀ wx, Ints wx a0 xs → Calls Try.prog 12 #[.agg #[.slice a0 xs.length cap0], .agg #[.int .i64 k, .int .i64 c, .int .i64 o, .int .i64 n]] wx (RDoPost wx a0 xs k c o n) := fun wx h => rdo_any a0 xs cap0 k c o n wx h (by omega) hn
      have hD := do_any a0 xs cap0 k c o n w1 i0 (by omega) hn
      unfold RDoPost at hR
      unfold DoPost at hD
      generalize doF xs k c o n = us at *
      generalize (toldF xs k c o n).1 = had at *
      generalize (toldF xs k c o n).2 = ok at *
      generalize whyF xs.length k c o n = err at *
      have HR := Lib.hid hR
      have HDL := Lib.hid hdl
      clear hR hdl
      refine hD.mono ?_
      clear hD
      rintro e w2 ⟨p2, cp2, rfl, hi2, hb2⟩
      have hbw2 := below_trans hb1 hb2
      clear c0 c1 c2 c3 c4 c5 i0 i1 s0 s1 s2
      obtain ⟨c0, c1, c2, c3, c4, c5, i0, i1, s0, s1, s2⟩ := HF.out w2 hbw2
      go_wp2_with fail
      obtain ⟨W2, hW2⟩ : ∃ W2, W2 = (w2.alloc (Obj.cells #[Value.slice p2 us.length cp2] 24)).alloc (Obj.cells #[Value.int .i64 had, Value.bool ok] 29) := ⟨_, rfl⟩
      have bW2 : Below w2.heap.size w2 W2 := by rw [hW2]; exact bel_alloc (bel_alloc (Below.refl _ _) _) _
      have X2 : Blk W2 w2.heap.size 24 #[Value.slice p2 us.length cp2] := by rw [hW2]; exact (Blk.made _ _ _).alloc _
      have R2 : Blk W2 (w2.heap.size + 1) 29 #[Value.int .i64 had, Value.bool ok] := by rw [hW2]; have := Blk.made (w2.alloc (Obj.cells #[Value.slice p2 us.length cp2] 24)) 29 #[Value.int .i64 had, Value.bool ok]; simpa [go_sem] using this
      rw [← hW2]
      clear hW2
      refine (HR.out _ (HF.out W2 (below_trans hbw2 bW2)).2.2.2.2.2.2.1).mono ?_
      rintro e w3 ⟨p3, cp3, rfl, hi3, hb3, -⟩
      have hb23 := below_trans bW2 hb3
      have hbw3 := below_trans hbw2 hb23
      clear c0 c1 c2 c3 c4 c5 i0 i1 s0 s1 s2
      have X3 := X2.later hb3
      have R3 := R2.later hb3
      have hi23 := hi2.later hb23
      clear X2 R2 hi2
      have l2 := X3.lt
      have l3 := R3.lt
      go_wp2_with fail
      obtain ⟨W3, hW3⟩ : ∃ W3, W3 = (w3.alloc (Obj.cells #[Value.slice p3 us.length cp3] 24)).alloc (Obj.cells #[Value.int .i64 had, Value.bool ok] 29) := ⟨_, rfl⟩
      have bW3 : Below w3.heap.size w3 W3 := by rw [hW3]; exact bel_alloc (bel_alloc (Below.refl _ _) _) _
      have Y3 : Blk W3 w3.heap.size 24 #[Value.slice p3 us.length cp3] := by rw [hW3]; exact (Blk.made _ _ _).alloc _
      have S3 : Blk W3 (w3.heap.size + 1) 29 #[Value.int .i64 had, Value.bool ok] := by rw [hW3]; have := Blk.made (w3.alloc (Obj.cells #[Value.slice p3 us.length cp3] 24)) 29 #[Value.int .i64 had, Value.bool ok]; simpa [go_sem] using this
      have X4 := X3.later bW3
      have R4 := R3.later bW3
      have hi24 := hi23.later bW3
      have hi34 := hi3.later bW3
      have hbw4 := below_trans hbw3 bW3
      rw [← hW3]
      clear hW3 X3 R3 hi23 hi3
      have x0 : ∀ y : After W3, y.w.cell? ⟨w2.heap.size, 0, none⟩ = some (.slice p2 us.length cp2) := fun y => (X4.later y.bel).cell 0
      have r0 : ∀ y : After W3, y.w.cell? ⟨w2.heap.size + 1, 0, none⟩ = some (.int .i64 had) := fun y => (R4.later y.bel).cell 0
      have r1 : ∀ y : After W3, y.w.cell? ⟨w2.heap.size + 1, 1, none⟩ = some (.bool ok) := fun y => (R4.later y.bel).cell 1
      have y0 : ∀ y : After W3, y.w.cell? ⟨w3.heap.size, 0, none⟩ = some (.slice p3 us.length cp3) := fun y => (Y3.later y.bel).cell 0
      have s0 : ∀ y : After W3, y.w.cell? ⟨w3.heap.size + 1, 0, none⟩ = some (.int .i64 had) := fun y => (S3.later y.bel).cell 0
      have s1 : ∀ y : After W3, y.w.cell? ⟨w3.heap.size + 1, 1, none⟩ = some (.bool ok) := fun y => (S3.later y.bel).cell 1
      have c0 : ∀ y : After W3, y.w.cell? ⟨w.heap.size, 0, none⟩ = some (.slice a0 xs.length cap0) := fun y => (HF.out y.w (below_trans hbw4 y.bel)).1
      have c1 : ∀ y : After W3, y.w.cell? ⟨w.heap.size + 1, 0, none⟩ = some (.slice a1 ys.length cap1) := fun y => (HF.out y.w (below_trans hbw4 y.bel)).2.1
      have c2 : ∀ y : After W3, y.w.cell? ⟨w.heap.size + 1 + 1, 0, none⟩ = some (.int .i64 k) := fun y => (HF.out y.w (below_trans hbw4 y.bel)).2.2.1
      have c3 : ∀ y : After W3, y.w.cell? ⟨w.heap.size + 1 + 1, 1, none⟩ = some (.int .i64 c) := fun y => (HF.out y.w (below_trans hbw4 y.bel)).2.2.2.1
      have c4 : ∀ y : After W3, y.w.cell? ⟨w.heap.size + 1 + 1, 2, none⟩ = some (.int .i64 o) := fun y => (HF.out y.w (below_trans hbw4 y.bel)).2.2.2.2.1
      have c5 : ∀ y : After W3, y.w.cell? ⟨w.heap.size + 1 + 1, 3, none⟩ = some (.int .i64 n) := fun y => (HF.out y.w (below_trans hbw4 y.bel)).2.2.2.2.2.1
      have i0 : ∀ y : After W3, Ints y.w a0 xs := fun y => (HF.out y.w (below_trans hbw4 y.bel)).2.2.2.2.2.2.1
      have i1 : ∀ y : After W3, Ints y.w a1 ys := fun y => (HF.out y.w (below_trans hbw4 y.bel)).2.2.2.2.2.2.2.1
      have I0 := Lib.hid i0
      have I1 := Lib.hid i1
      have I2 := Lib.hid hi24
      have I3 := Lib.hid hi34
      clear i0 i1 hi24 hi34 X4 R4 Y3 S3
      refine wp_region_after (by kernel_rfl) (by kernel_rfl) ?_
      repeat (go_big_quiet_step (first
        | (go_at_call 13; exact calls_after (right_any _ _ _ _ _))
        | (go_at_call 14; exact calls_after (rright_any _ _ _ _ _))
        | (go_at_call 15; exact calls_after (same_any _ _ _ _ _ _ _ (I0.out _) (I1.out _) (by omega) (by omega)))
        | (go_at_call_of 16 xs; exact calls_after (rsame_any _ _ _ _ _ _ _ (I0.out _) (I1.out _) (by omega) (by omega)))
        | (go_at_call 16; exact calls_after (rsame_any _ _ _ _ _ _ _ (I2.out.later (After.bel _)) (I3.out.later (After.bel _)) HDL.out HDL.out))))
      refine wpQuiet_nil ?_
      rintro _ ⟨y, rfl⟩
      all_goals go_wp2_with fail
      all_goals (go_ret; exact ⟨rfl, below_trans hbW (below_trans hbw4 y.bel)⟩)
    · have g2 : (200 : Int) < ys.length := by omega
      have g1 : ¬ ((200 : Int) < xs.length) := by omega
      go_enter Try.func3, Try.ntmps3
      go_wp2_with fail
      rw [← HW.out]
      refine (shown_any _).mono ?_
      rintro e w1 ⟨rfl, hb1⟩
      obtain ⟨c0, c1, c2, c3, c4, c5, i0, i1, s0, s1, s2⟩ := HF.out w1 hb1
      go_wp2_with fail
      go_ret
      exact ⟨rfl, below_trans hbW hb1⟩
  · have g1 : (200 : Int) < xs.length := by omega
    go_enter Try.func3, Try.ntmps3
    go_wp2_with fail
    rw [← HW.out]
    refine (shown_any _).mono ?_
    rintro e w1 ⟨rfl, hb1⟩
    obtain ⟨c0, c1, c2, c3, c4, c5, i0, i1, s0, s1, s2⟩ := HF.out w1 hb1
    go_wp2_with fail
    go_ret
    exact ⟨rfl, below_trans hbW hb1⟩

end Go.Proofs.Ytnjpdgahjbijcaa
