/-
  MEM: the walk of the law MemAll.
-/
import Derived.Test.YtnjpdgahjbijcaaMemG
import Derived.Test.YtnjpdgahjbijcaaMemH
import Derived.Test.YtnjpdgahjbijcaaMemT
namespace Go.Proofs.Ytnjpdgahjbijcaa
open Go.ChangeShapes Go.WideShapes Go.ChangeAt Go.RowKit

set_option maxRecDepth 40000 in
set_option maxHeartbeats 1000000 in
theorem walkMemAll (a0 : Option Addr) (len0 cap0 : Nat) (z0 : List Int) (a1 : Option Addr) (cap1 : Nat) (l : List Acc) (w : World) (h0 : IsRow .i64 w a0 len0 cap0 z0)
    (h1 : Accs w a1 l) (hm1 : l.length ≤ maxLen) (hcap : l.length ≤ cap1) (hnil : a1 = none → cap1 = 0) :
    Calls Try.prog 4 #[.agg #[.slice a0 len0 cap0], .slice a1 l.length cap1] w fun e w' => e = .returned (.bool true) ∧ Below w.heap.size w w' := by
  obtain ⟨hx, hxl, hx2⟩ := Ints.of_row h0
  generalize z0.take len0 = xs at hx hxl
  subst hxl
  clear h0
  obtain ⟨W, hW⟩ : ∃ W, W = w.alloc (Obj.cells #[Value.slice a0 xs.length cap0] 24) := ⟨_, rfl⟩
  have hbW : Below w.heap.size w W := by rw [hW]; exact bel_alloc (Below.refl _ _) _
  have B0 : Blk W w.heap.size 24 #[Value.slice a0 xs.length cap0] := by rw [hW]; exact Blk.made _ _ _
  have HB0 := Lib.hid B0
  have HW := Lib.hid hW
  have HX := Lib.hid (hx.later hbW)
  have HA := Lib.hid (h1.later hbW)
  clear hx hW B0 h1
  by_cases hl : xs.length ≤ 100
  · have g1 : ¬ ((100 : Int) < xs.length) := by omega
    by_cases hl2 : l.length ≤ 40
    · have g2 : ¬ ((40 : Int) < l.length) := by omega
      go_enter Try.func4, Try.ntmps4
      go_wp2_with fail
      rw [← HW.out]
      refine (shown_any _).mono ?_
      rintro e w1 ⟨rfl, b1⟩
      have c1 : w1.cell? ⟨w.heap.size, 0, none⟩ = some (.slice a0 xs.length cap0) := (HB0.out.later b1).cell 0
      go_wp2_with fail
      refine (all_any a0 a1 xs cap0 cap1 l w1 (HX.out.later b1) (by omega) (HA.out.later b1) (by omega)).mono ?_
      rintro e w2 ⟨p2, cp2, q2, n2, cq2, rfl, b2, hif2⟩
      have HI2 := Lib.hid hif2
      have b12 := below_trans b1 b2
      have c2 : w2.cell? ⟨w.heap.size, 0, none⟩ = some (.slice a0 xs.length cap0) := (HB0.out.later b12).cell 0
      have s2 : w.heap.size < w2.heap.size := (HB0.out.later b12).lt
      clear c1 hif2
      go_wp2_with fail
      obtain ⟨W2, hW2⟩ : ∃ W2, W2 = w2.alloc (Obj.cells #[Value.slice p2 xs.length cp2] 24) := ⟨_, rfl⟩
      have bW2 : Below w2.heap.size w2 W2 := by rw [hW2]; exact bel_alloc (Below.refl _ _) _
      have BX : Blk W2 w2.heap.size 24 #[Value.slice p2 xs.length cp2] := by rw [hW2]; exact Blk.made _ _ _
      rw [← hW2]
      clear hW2 c2 s2
      have b02 := below_trans b12 bW2
      refine (rall_any a0 a1 xs cap0 cap1 l W2 (HX.out.later b02) (by omega) (HA.out.later b02) (by omega)).mono ?_
      rintro e w3 ⟨p3, cp3, q3, n3, cq3, rfl, b3, hif3⟩
      have HI3 := Lib.hid hif3
      have b03 := below_trans b02 b3
      have HBX := Lib.hid (BX.later b3)
      clear hif3 BX
      generalize hE : whyTo xs.length l l.length = err at *
      have hml : (madeTo xs l l.length).length = xs.length := madeTo_length _ _ _
      have htl : (toldTo xs l l.length).length = l.length := toldTo_len _ _ _
      generalize hmm : madeTo xs l l.length = MM at *
      generalize toldTo xs l l.length = T0 at *
      have sx : w2.heap.size < w3.heap.size := HBX.out.lt
      have kx : w3.cell? ⟨w2.heap.size, 0, none⟩ = some (.slice p2 xs.length cp2) := HBX.out.cell 0
      have b23 := below_trans bW2 b3
      have hboth : ∃ (ys : List Int) (rs : List (Int × Bool)) (n : Nat), ys.length = xs.length ∧ rs.length = n ∧ n ≤ 40 ∧ n2 = n ∧ n3 = n ∧ Ints w3 p2 ys ∧ Ints w3 p3 ys ∧ Cells w3 q2 (resCells rs) ∧ Cells w3 q3 (resCells rs) := by
        have hi2 := HI2.out
        have hi3 := HI3.out
        by_cases he : err = 0
        · rw [if_pos he] at hi2 hi3
          exact ⟨MM, T0, l.length, hml, htl, hl2, hi2.2.1, hi3.2.1, hi2.1.later b23, hi3.1, hi2.2.2.later b23, hi3.2.2⟩
        · rw [if_neg he] at hi2 hi3
          obtain ⟨g1, g2, g3, g4⟩ := hi2
          obtain ⟨k1, k2, k3, k4⟩ := hi3
          exact ⟨xs, [], 0, rfl, rfl, by omega, g3, k3, g1.later b23, k1, by rw [g2]; exact ⟨fun i hi => absurd hi (by simp [resCells])⟩, by rw [k2]; exact ⟨fun i hi => absurd hi (by simp [resCells])⟩⟩
      obtain ⟨ys, rs, n, hy, hr, hn, hn2, hn3, i2, i3, r2, r3⟩ := hboth
      replace hn2 := hn2.symm
      replace hn3 := hn3.symm
      subst hn2 hn3
      have HR2 := Lib.hid r2
      have HR3 := Lib.hid r3
      have HRL := Lib.hid hr
      have hsame : ∀ wx, Below w3.heap.size w3 wx → Calls Try.prog 16 #[.agg #[.slice p2 xs.length cp2], .agg #[.slice p3 xs.length cp3]] wx fun e w' => e = .returned (.bool true) ∧ Below wx.heap.size wx w' := fun wx h => by
        have := rsame_any p2 p3 ys ys cp2 cp3 wx (i2.later h) (i3.later h) (by omega) (by omega)
        rw [hy] at this
        simpa using this
      have HSAME := Lib.hid hsame
      clear hsame i2 i3 r2 r3 hy hr HI2 HI3 hE hml htl hmm
      go_wp2_with fail
      have b3a := bel_alloc (Below.refl w3.heap.size w3) (Obj.cells #[Value.slice p3 xs.length cp3] 24)
      refine (HSAME.out _ b3a).mono ?_
      rintro e w4 ⟨rfl, b4⟩
      have b34 := below_trans b3a b4
      go_wp2_with fail
      refine (rtold_same q2 q3 rs n cq2 cq3 w4 HRL.out (HR2.out.later b34) (HR3.out.later b34) (by omega)).mono ?_
      rintro e w5 ⟨rfl, b5⟩
      go_wp2_with fail
      go_ret
      exact ⟨by first | rfl | (simp; done), below_trans hbW (below_trans b03 (below_trans b34 b5))⟩
    · have g2 : (40 : Int) < l.length := by omega
      go_enter Try.func4, Try.ntmps4
      go_wp2_with fail
      rw [← HW.out]
      refine (shown_any _).mono ?_
      rintro e w1 ⟨rfl, b1⟩
      have c1 : w1.cell? ⟨w.heap.size, 0, none⟩ = some (.slice a0 xs.length cap0) := (HB0.out.later b1).cell 0
      go_wp2_with fail
      go_ret
      exact ⟨rfl, below_trans hbW b1⟩
  · have g1 : (100 : Int) < xs.length := by omega
    go_enter Try.func4, Try.ntmps4
    go_wp2_with fail
    rw [← HW.out]
    refine (shown_any _).mono ?_
    rintro e w1 ⟨rfl, b1⟩
    have c1 : w1.cell? ⟨w.heap.size, 0, none⟩ = some (.slice a0 xs.length cap0) := (HB0.out.later b1).cell 0
    go_wp2_with fail
    go_ret
    exact ⟨rfl, below_trans hbW b1⟩

end Go.Proofs.Ytnjpdgahjbijcaa
