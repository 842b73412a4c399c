/-
  LAYOUT: mayBe, where the conf may not be.
-/
import Derived.Test.YtbaeckehchpfaaaRows
import Derived.ProofKit
import Derived.Test.YtbaeckehchpfaaaLayA
namespace Go.Proofs.Ytbaeckehchpfaaa
open Go.ChangeShapes Go.WideShapes Go.ChangeAt Go.RowKit

def Pow2 (b : Int) : Prop := b = 1 ∨ b = 2 ∨ b = 4 ∨ b = 8 ∨ b = 16 ∨ b = 32 ∨ b = 64

set_option maxRecDepth 100000 in
set_option maxHeartbeats 20000000 in
theorem may_no (s n b sl t ce ma st ch : Int) (h : ¬ MayOk s b sl t ce ma st ch) (w : World) :
    Calls Try.prog 22 #[.agg (confC s n b sl t ce ma st ch)] w fun e w' => e = .returned (.bool false) ∧ Below w.heap.size w w' := by
  have HNO := Lib.hid h
  clear h
  obtain ⟨W, hW⟩ : ∃ W, W = (w.alloc (Obj.cells (confC s n b sl t ce ma st ch) 23)).alloc (Obj.cells (boundC s b sl t ce ma st ch) 66) := ⟨_, rfl⟩
  have HC : Blk W w.heap.size 23 (confC s n b sl t ce ma st ch) := by rw [hW]; exact (Blk.made w _ _).alloc _
  have HR : Blk W (w.heap.size + 1) 66 (boundC s b sl t ce ma st ch) := by
    rw [hW]
    have := Blk.made (w.alloc (Obj.cells (confC s n b sl t ce ma st ch) 23)) 66 (boundC s b sl t ce ma st ch)
    simpa [go_sem] using this
  have hbW : Below w.heap.size w W := by rw [hW]; exact ((Below.refl _ w).alloc (Nat.le_refl _) _).alloc (by simp [go_sem]) _
  have HCh := Lib.hid HC
  have HRh := Lib.hid HR
  have hw := hW
  unfold confC boundC at hw
  have HW := Lib.hid hw
  have HBW := Lib.hid hbW
  clear hW hw HC HR hbW
  unfold confC
  go_enter Try.func22, Try.ntmps22
  go_wp2_with fail
  rw [← HW.out]
  go_loopw [31] (fun i wr => ∃ k : Nat, i = .int .i64 k ∧ k ≤ 8 ∧ Below W.heap.size W wr ∧ (0 < k → 1 ≤ s ∧ s ≤ 8) ∧ (1 < k → 1 ≤ b ∧ b ≤ 64) ∧ (2 < k → 1 ≤ sl ∧ sl ≤ 8) ∧ (3 < k → 1 ≤ t ∧ t ≤ 64) ∧ (4 < k → 0 ≤ ce ∧ ce ≤ 16) ∧ (5 < k → 0 ≤ ma ∧ ma ≤ 8) ∧ (6 < k → 0 ≤ st ∧ st ≤ 8) ∧ (7 < k → 0 ≤ ch ∧ ch ≤ 8)) (fun i _ => 8 - (intOf i).toNat)
  case atStart => exact ⟨0, rfl, by omega, Below.refl _ _, fun h => absurd h (by omega), fun h => absurd h (by omega), fun h => absurd h (by omega), fun h => absurd h (by omega), fun h => absurd h (by omega), fun h => absurd h (by omega), fun h => absurd h (by omega), fun h => absurd h (by omega)⟩
  case round =>
    obtain ⟨k, rfl, hk, hb, o0, o1, o2, o3, o4, o5, o6, o7⟩ := hrel
    rename_i wr
    have HX := Lib.hid (HRh.out.later hb)
    have hx2 : wr.cell? ⟨w.heap.size, 2, none⟩ = some (.int .i64 b) := (HCh.out.later hb).cell 2
    rcases (show k = 0 ∨ k = 1 ∨ k = 2 ∨ k = 3 ∨ k = 4 ∨ k = 5 ∨ k = 6 ∨ k = 7 ∨ k = 8 by omega) with rfl | rfl | rfl | rfl | rfl | rfl | rfl | rfl | rfl
    · have x0 : wr.cell? ⟨w.heap.size + 1, 0, none⟩ = some (.int .i64 s) := HX.out.cell 0
      have x1 : wr.cell? ⟨w.heap.size + 1, 1, none⟩ = some (.int .i64 1) := HX.out.cell 1
      have x2 : wr.cell? ⟨w.heap.size + 1, 2, none⟩ = some (.int .i64 8) := HX.out.cell 2
      have O := Lib.hid (show True ∧ True from ⟨trivial, trivial⟩)
      skip
      clear o0 o1 o2 o3 o4 o5 o6 o7
      by_cases l1 : 1 ≤ s
      · by_cases l2 : s ≤ 8
        · go_wp2_with fail
          go_roundw
          case rel => exact ⟨1, rfl, by omega, hb.alloc hb.size _, fun _ => ⟨l1, l2⟩, fun h => absurd h (by omega), fun h => absurd h (by omega), fun h => absurd h (by omega), fun h => absurd h (by omega), fun h => absurd h (by omega), fun h => absurd h (by omega), fun h => absurd h (by omega)⟩
          case measure => simp [intOf]
        · go_wp2_with fail
          go_ret
          exact ⟨rfl, HBW.out.trans ((hb.alloc hb.size _).mono HBW.out.size)⟩
      · go_wp2_with fail
        go_ret
        exact ⟨rfl, HBW.out.trans ((hb.alloc hb.size _).mono HBW.out.size)⟩
    · have x0 : wr.cell? ⟨w.heap.size + 1, 3, none⟩ = some (.int .i64 b) := HX.out.cell 3
      have x1 : wr.cell? ⟨w.heap.size + 1, 4, none⟩ = some (.int .i64 1) := HX.out.cell 4
      have x2 : wr.cell? ⟨w.heap.size + 1, 5, none⟩ = some (.int .i64 64) := HX.out.cell 5
      have O := Lib.hid (show True ∧ True from ⟨trivial, trivial⟩)
      have O0 := Lib.hid (o0 (by omega))
      clear o0 o1 o2 o3 o4 o5 o6 o7
      by_cases l1 : 1 ≤ b
      · by_cases l2 : b ≤ 64
        · go_wp2_with fail
          go_roundw
          case rel => exact ⟨2, rfl, by omega, hb.alloc hb.size _, fun _ => O0.out, fun _ => ⟨l1, l2⟩, fun h => absurd h (by omega), fun h => absurd h (by omega), fun h => absurd h (by omega), fun h => absurd h (by omega), fun h => absurd h (by omega), fun h => absurd h (by omega)⟩
          case measure => simp [intOf]
        · go_wp2_with fail
          go_ret
          exact ⟨rfl, HBW.out.trans ((hb.alloc hb.size _).mono HBW.out.size)⟩
      · go_wp2_with fail
        go_ret
        exact ⟨rfl, HBW.out.trans ((hb.alloc hb.size _).mono HBW.out.size)⟩
    · have x0 : wr.cell? ⟨w.heap.size + 1, 6, none⟩ = some (.int .i64 sl) := HX.out.cell 6
      have x1 : wr.cell? ⟨w.heap.size + 1, 7, none⟩ = some (.int .i64 1) := HX.out.cell 7
      have x2 : wr.cell? ⟨w.heap.size + 1, 8, none⟩ = some (.int .i64 8) := HX.out.cell 8
      have O := Lib.hid (show True ∧ True from ⟨trivial, trivial⟩)
      have O0 := Lib.hid (o0 (by omega))
      have O1 := Lib.hid (o1 (by omega))
      clear o0 o1 o2 o3 o4 o5 o6 o7
      by_cases l1 : 1 ≤ sl
      · by_cases l2 : sl ≤ 8
        · go_wp2_with fail
          go_roundw
          case rel => exact ⟨3, rfl, by omega, hb.alloc hb.size _, fun _ => O0.out, fun _ => O1.out, fun _ => ⟨l1, l2⟩, fun h => absurd h (by omega), fun h => absurd h (by omega), fun h => absurd h (by omega), fun h => absurd h (by omega), fun h => absurd h (by omega)⟩
          case measure => simp [intOf]
        · go_wp2_with fail
          go_ret
          exact ⟨rfl, HBW.out.trans ((hb.alloc hb.size _).mono HBW.out.size)⟩
      · go_wp2_with fail
        go_ret
        exact ⟨rfl, HBW.out.trans ((hb.alloc hb.size _).mono HBW.out.size)⟩
    · have x0 : wr.cell? ⟨w.heap.size + 1, 9, none⟩ = some (.int .i64 t) := HX.out.cell 9
      have x1 : wr.cell? ⟨w.heap.size + 1, 10, none⟩ = some (.int .i64 1) := HX.out.cell 10
      have x2 : wr.cell? ⟨w.heap.size + 1, 11, none⟩ = some (.int .i64 64) := HX.out.cell 11
      have O := Lib.hid (show True ∧ True from ⟨trivial, trivial⟩)
      have O0 := Lib.hid (o0 (by omega))
      have O1 := Lib.hid (o1 (by omega))
      have O2 := Lib.hid (o2 (by omega))
      clear o0 o1 o2 o3 o4 o5 o6 o7
      by_cases l1 : 1 ≤ t
      · by_cases l2 : t ≤ 64
        · go_wp2_with fail
          go_roundw
          case rel => exact ⟨4, rfl, by omega, hb.alloc hb.size _, fun _ => O0.out, fun _ => O1.out, fun _ => O2.out, fun _ => ⟨l1, l2⟩, fun h => absurd h (by omega), fun h => absurd h (by omega), fun h => absurd h (by omega), fun h => absurd h (by omega)⟩
          case measure => simp [intOf]
        · go_wp2_with fail
          go_ret
          exact ⟨rfl, HBW.out.trans ((hb.alloc hb.size _).mono HBW.out.size)⟩
      · go_wp2_with fail
        go_ret
        exact ⟨rfl, HBW.out.trans ((hb.alloc hb.size _).mono HBW.out.size)⟩
    · have x0 : wr.cell? ⟨w.heap.size + 1, 12, none⟩ = some (.int .i64 ce) := HX.out.cell 12
      have x1 : wr.cell? ⟨w.heap.size + 1, 13, none⟩ = some (.int .i64 0) := HX.out.cell 13
      have x2 : wr.cell? ⟨w.heap.size + 1, 14, none⟩ = some (.int .i64 16) := HX.out.cell 14
      have O := Lib.hid (show True ∧ True from ⟨trivial, trivial⟩)
      have O0 := Lib.hid (o0 (by omega))
      have O1 := Lib.hid (o1 (by omega))
      have O2 := Lib.hid (o2 (by omega))
      have O3 := Lib.hid (o3 (by omega))
      clear o0 o1 o2 o3 o4 o5 o6 o7
      by_cases l1 : 0 ≤ ce
      · by_cases l2 : ce ≤ 16
        · go_wp2_with fail
          go_roundw
          case rel => exact ⟨5, rfl, by omega, hb.alloc hb.size _, fun _ => O0.out, fun _ => O1.out, fun _ => O2.out, fun _ => O3.out, fun _ => ⟨l1, l2⟩, fun h => absurd h (by omega), fun h => absurd h (by omega), fun h => absurd h (by omega)⟩
          case measure => simp [intOf]
        · go_wp2_with fail
          go_ret
          exact ⟨rfl, HBW.out.trans ((hb.alloc hb.size _).mono HBW.out.size)⟩
      · go_wp2_with fail
        go_ret
        exact ⟨rfl, HBW.out.trans ((hb.alloc hb.size _).mono HBW.out.size)⟩
    · have x0 : wr.cell? ⟨w.heap.size + 1, 15, none⟩ = some (.int .i64 ma) := HX.out.cell 15
      have x1 : wr.cell? ⟨w.heap.size + 1, 16, none⟩ = some (.int .i64 0) := HX.out.cell 16
      have x2 : wr.cell? ⟨w.heap.size + 1, 17, none⟩ = some (.int .i64 8) := HX.out.cell 17
      have O := Lib.hid (show True ∧ True from ⟨trivial, trivial⟩)
      have O0 := Lib.hid (o0 (by omega))
      have O1 := Lib.hid (o1 (by omega))
      have O2 := Lib.hid (o2 (by omega))
      have O3 := Lib.hid (o3 (by omega))
      have O4 := Lib.hid (o4 (by omega))
      clear o0 o1 o2 o3 o4 o5 o6 o7
      by_cases l1 : 0 ≤ ma
      · by_cases l2 : ma ≤ 8
        · go_wp2_with fail
          go_roundw
          case rel => exact ⟨6, rfl, by omega, hb.alloc hb.size _, fun _ => O0.out, fun _ => O1.out, fun _ => O2.out, fun _ => O3.out, fun _ => O4.out, fun _ => ⟨l1, l2⟩, fun h => absurd h (by omega), fun h => absurd h (by omega)⟩
          case measure => simp [intOf]
        · go_wp2_with fail
          go_ret
          exact ⟨rfl, HBW.out.trans ((hb.alloc hb.size _).mono HBW.out.size)⟩
      · go_wp2_with fail
        go_ret
        exact ⟨rfl, HBW.out.trans ((hb.alloc hb.size _).mono HBW.out.size)⟩
    · have x0 : wr.cell? ⟨w.heap.size + 1, 18, none⟩ = some (.int .i64 st) := HX.out.cell 18
      have x1 : wr.cell? ⟨w.heap.size + 1, 19, none⟩ = some (.int .i64 0) := HX.out.cell 19
      have x2 : wr.cell? ⟨w.heap.size + 1, 20, none⟩ = some (.int .i64 8) := HX.out.cell 20
      have O := Lib.hid (show True ∧ True from ⟨trivial, trivial⟩)
      have O0 := Lib.hid (o0 (by omega))
      have O1 := Lib.hid (o1 (by omega))
      have O2 := Lib.hid (o2 (by omega))
      have O3 := Lib.hid (o3 (by omega))
      have O4 := Lib.hid (o4 (by omega))
      have O5 := Lib.hid (o5 (by omega))
      clear o0 o1 o2 o3 o4 o5 o6 o7
      by_cases l1 : 0 ≤ st
      · by_cases l2 : st ≤ 8
        · go_wp2_with fail
          go_roundw
          case rel => exact ⟨7, rfl, by omega, hb.alloc hb.size _, fun _ => O0.out, fun _ => O1.out, fun _ => O2.out, fun _ => O3.out, fun _ => O4.out, fun _ => O5.out, fun _ => ⟨l1, l2⟩, fun h => absurd h (by omega)⟩
          case measure => simp [intOf]
        · go_wp2_with fail
          go_ret
          exact ⟨rfl, HBW.out.trans ((hb.alloc hb.size _).mono HBW.out.size)⟩
      · go_wp2_with fail
        go_ret
        exact ⟨rfl, HBW.out.trans ((hb.alloc hb.size _).mono HBW.out.size)⟩
    · have x0 : wr.cell? ⟨w.heap.size + 1, 21, none⟩ = some (.int .i64 ch) := HX.out.cell 21
      have x1 : wr.cell? ⟨w.heap.size + 1, 22, none⟩ = some (.int .i64 0) := HX.out.cell 22
      have x2 : wr.cell? ⟨w.heap.size + 1, 23, none⟩ = some (.int .i64 8) := HX.out.cell 23
      have O := Lib.hid (show True ∧ True from ⟨trivial, trivial⟩)
      have O0 := Lib.hid (o0 (by omega))
      have O1 := Lib.hid (o1 (by omega))
      have O2 := Lib.hid (o2 (by omega))
      have O3 := Lib.hid (o3 (by omega))
      have O4 := Lib.hid (o4 (by omega))
      have O5 := Lib.hid (o5 (by omega))
      have O6 := Lib.hid (o6 (by omega))
      clear o0 o1 o2 o3 o4 o5 o6 o7
      by_cases l1 : 0 ≤ ch
      · by_cases l2 : ch ≤ 8
        · go_wp2_with fail
          go_roundw
          case rel => exact ⟨8, rfl, by omega, hb.alloc hb.size _, fun _ => O0.out, fun _ => O1.out, fun _ => O2.out, fun _ => O3.out, fun _ => O4.out, fun _ => O5.out, fun _ => O6.out, fun _ => ⟨l1, l2⟩⟩
          case measure => simp [intOf]
        · go_wp2_with fail
          go_ret
          exact ⟨rfl, HBW.out.trans ((hb.alloc hb.size _).mono HBW.out.size)⟩
      · go_wp2_with fail
        go_ret
        exact ⟨rfl, HBW.out.trans ((hb.alloc hb.size _).mono HBW.out.size)⟩
    · have hnp : ¬ Pow2 b := fun hp => HNO.out ⟨o0 (by omega), o1 (by omega), o2 (by omega), o3 (by omega), o4 (by omega), o5 (by omega), o6 (by omega), o7 (by omega), hp⟩
      have hbb := o1 (by omega)
      have hbs : b = 3 ∨ b = 5 ∨ b = 6 ∨ b = 7 ∨ b = 9 ∨ b = 10 ∨ b = 11 ∨ b = 12 ∨ b = 13 ∨ b = 14 ∨ b = 15 ∨ b = 17 ∨ b = 18 ∨ b = 19 ∨ b = 20 ∨ b = 21 ∨ b = 22 ∨ b = 23 ∨ b = 24 ∨ b = 25 ∨ b = 26 ∨ b = 27 ∨ b = 28 ∨ b = 29 ∨ b = 30 ∨ b = 31 ∨ b = 33 ∨ b = 34 ∨ b = 35 ∨ b = 36 ∨ b = 37 ∨ b = 38 ∨ b = 39 ∨ b = 40 ∨ b = 41 ∨ b = 42 ∨ b = 43 ∨ b = 44 ∨ b = 45 ∨ b = 46 ∨ b = 47 ∨ b = 48 ∨ b = 49 ∨ b = 50 ∨ b = 51 ∨ b = 52 ∨ b = 53 ∨ b = 54 ∨ b = 55 ∨ b = 56 ∨ b = 57 ∨ b = 58 ∨ b = 59 ∨ b = 60 ∨ b = 61 ∨ b = 62 ∨ b = 63 := by unfold Pow2 at hnp; omega
      clear o0 o1 o2 o3 o4 o5 o6 o7 hnp hbb HNO HCh HRh HW HX
      rcases hbs with rfl | rfl | rfl | rfl | rfl | rfl | rfl | rfl | rfl | rfl | rfl | rfl | rfl | rfl | rfl | rfl | rfl | rfl | rfl | rfl | rfl | rfl | rfl | rfl | rfl | rfl | rfl | rfl | rfl | rfl | rfl | rfl | rfl | rfl | rfl | rfl | rfl | rfl | rfl | rfl | rfl | rfl | rfl | rfl | rfl | rfl | rfl | rfl | rfl | rfl | rfl | rfl | rfl | rfl | rfl | rfl | rfl
      all_goals
        go_wp2_with fail
        go_ret
        exact ⟨rfl, HBW.out.trans (hb.mono HBW.out.size)⟩
end Go.Proofs.Ytbaeckehchpfaaa
