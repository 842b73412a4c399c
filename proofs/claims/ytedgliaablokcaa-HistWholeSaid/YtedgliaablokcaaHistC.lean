/-
  HIST: what passes a sieve, and what is left.
-/
import Derived.Test.YtedgliaablokcaaRows
import Derived.ProofKit
import Derived.Test.YtedgliaablokcaaHistA
import Derived.Test.YtedgliaablokcaaOwn
namespace Go.Proofs.Ytedgliaablokcaa
open Go.ChangeShapes Go.WideShapes Go.ChangeAt Go.RowKit

theorem call_info : (Try.prog.info? 30).map (fun i => (i.zero, i.size, i.bytes)) = some (some (.agg #[.int .i64 0, .int .i64 0, .int .i64 0, .int .i64 0, .int .i64 0, .int .i64 0, .bool false, .int .i64 0, .int .i64 0, .int .i64 0]), 10, 80) := by kernel_rfl

set_option maxHeartbeats 2000000 in
theorem passes2 (c : CallV) (g g1 g2 : Nat) (kind obj : Int) (w : World) (hA : w.cell? ⟨g, 0, none⟩ = some (.func (Fn.func 18) #[] #[.pointer (some ⟨g1, 0, none⟩)])) (hB : w.cell? ⟨g, 1, none⟩ = some (.func (Fn.func 20) #[] #[.pointer (some ⟨g2, 0, none⟩)]))
    (h1 : w.cell? ⟨g1, 0, none⟩ = some (.int .i64 kind)) (h2 : w.cell? ⟨g2, 0, none⟩ = some (.int .i64 obj)) :
    Calls Try.prog 22 #[.agg #[.slice (some ⟨g, 0, none⟩) 2 2], .agg #[.int .i64 c.who, .int .i64 c.kind, .int .i64 c.obj, .int .i64 c.a, .int .i64 c.b, .int .i64 c.val, .bool c.is, .int .i64 c.first, .int .i64 c.last, .int .i64 c.point]] w fun e w' => e = .returned (.bool ((kindOf c.kind == kind) && (c.obj == obj))) ∧ Below w.heap.size w w' := by
  have lg := World.block_lt_of_cell? w _ hA
  have l1 := World.block_lt_of_cell? w _ h1
  have l2 := World.block_lt_of_cell? w _ h2
  obtain ⟨W, hW⟩ : ∃ W, W = (w.alloc (Obj.cells #[.slice (some ⟨g, 0, none⟩) 2 2] 51)).alloc (Obj.cells #[.int .i64 c.who, .int .i64 c.kind, .int .i64 c.obj, .int .i64 c.a, .int .i64 c.b, .int .i64 c.val, .bool c.is, .int .i64 c.first, .int .i64 c.last, .int .i64 c.point] 30) := ⟨_, rfl⟩
  have hbW : Below w.heap.size w W := by rw [hW]; exact ((Below.refl _ _).alloc (Nat.le_refl _) _).alloc (by simp) _
  have HC : Blk W (w.heap.size + 1) 30 #[.int .i64 c.who, .int .i64 c.kind, .int .i64 c.obj, .int .i64 c.a, .int .i64 c.b, .int .i64 c.val, .bool c.is, .int .i64 c.first, .int .i64 c.last, .int .i64 c.point] := by
    rw [hW]
    have := Blk.made (w.alloc (Obj.cells #[.slice (some ⟨g, 0, none⟩) 2 2] 51)) 30 #[.int .i64 c.who, .int .i64 c.kind, .int .i64 c.obj, .int .i64 c.a, .int .i64 c.b, .int .i64 c.val, .bool c.is, .int .i64 c.first, .int .i64 c.last, .int .i64 c.point]
    simpa [go_sem] using this
  have HW := Lib.hid hW
  have HX := Lib.hid fun wx (h : Below w.heap.size w wx) => (show wx.cell? ⟨g, 0, none⟩ = some (.func (Fn.func 18) #[] #[.pointer (some ⟨g1, 0, none⟩)]) ∧ wx.cell? ⟨g, 1, none⟩ = some (.func (Fn.func 20) #[] #[.pointer (some ⟨g2, 0, none⟩)]) ∧ wx.cell? ⟨g1, 0, none⟩ = some (.int .i64 kind) ∧ wx.cell? ⟨g2, 0, none⟩ = some (.int .i64 obj) from
    ⟨by rw [h.cell (p := ⟨g, 0, none⟩) lg]; exact hA, by rw [h.cell (p := ⟨g, 1, none⟩) lg]; exact hB, by rw [h.cell (p := ⟨g1, 0, none⟩) l1]; exact h1, by rw [h.cell (p := ⟨g2, 0, none⟩) l2]; exact h2⟩)
  clear hW hA hB h1 h2 lg l1 l2
  obtain ⟨p1, hp1⟩ : ∃ p, (kindOf c.kind == kind) = p := ⟨_, rfl⟩
  obtain ⟨p2, hp2⟩ : ∃ p, (c.obj == obj) = p := ⟨_, rfl⟩
  have H1 := Lib.hid fun g wx h => of1_any c g kind wx h
  have H2 := Lib.hid fun g wx h => of2_any c g obj wx h
  rw [hp1] at H1 ⊢
  rw [hp2] at H2 ⊢
  clear hp1 hp2
  go_enter Try.func22, Try.ntmps22
  go_wp2_with fail
  rw [← HW.out]
  go_loopw [10] (fun i wr => ∃ k : Nat, i = .int .i64 k ∧ k ≤ 2 ∧ Below W.heap.size W wr ∧ (1 ≤ k → p1 = true) ∧ (2 ≤ k → p2 = true)) (fun i _ => 2 - (intOf i).toNat)
  case atStart => exact ⟨0, rfl, by omega, Below.refl _ _, fun h => absurd h (by decide), fun h => absurd h (by decide)⟩
  case round =>
    obtain ⟨k, rfl, hk, hb, hq1, hq2⟩ := hrel
    have hbw := hbW.trans (hb.mono hbW.size)
    obtain ⟨cA, cB, c1, c2⟩ := HX.out _ hbw
    have HCr := HC.later hb
    have d0 : _ = some (Value.int .i64 c.who) := HCr.cell 0
    have d1 : _ = some (Value.int .i64 c.kind) := HCr.cell 1
    have d2 : _ = some (Value.int .i64 c.obj) := HCr.cell 2
    have d3 : _ = some (Value.int .i64 c.a) := HCr.cell 3
    have d4 : _ = some (Value.int .i64 c.b) := HCr.cell 4
    have d5 : _ = some (Value.int .i64 c.val) := HCr.cell 5
    have d6 : _ = some (Value.bool c.is) := HCr.cell 6
    have d7 : _ = some (Value.int .i64 c.first) := HCr.cell 7
    have d8 : _ = some (Value.int .i64 c.last) := HCr.cell 8
    have d9 : _ = some (Value.int .i64 c.point) := HCr.cell 9
    have HB := Lib.hid hb
    have HBw := Lib.hid hbw
    clear hb hbw HCr
    rcases (show k = 0 ∨ k = 1 ∨ k = 2 by omega) with rfl | rfl | rfl
    · clear hq1 hq2
      go_wp2_with fail
      refine (H1.out _ _ c1).mono ?_
      rintro e w2 ⟨rfl, hb2⟩
      have HB2 := Lib.hid hb2
      clear hb2
      cases p1
      · go_wp2_with fail
        go_ret
        exact ⟨rfl, HBw.out.trans (HB2.out.mono HBw.out.size)⟩
      · go_wp2_with fail
        go_roundw
        case rel => exact ⟨1, rfl, by omega, HB.out.trans (HB2.out.mono HB.out.size), by simp, fun h => absurd h (by decide)⟩
        case measure => simp [intOf]
    · obtain rfl := hq1 (by omega)
      clear hq1 hq2
      go_wp2_with fail
      refine (H2.out _ _ c2).mono ?_
      rintro e w2 ⟨rfl, hb2⟩
      have HB2 := Lib.hid hb2
      clear hb2
      cases p2
      · go_wp2_with fail
        go_ret
        exact ⟨rfl, HBw.out.trans (HB2.out.mono HBw.out.size)⟩
      · go_wp2_with fail
        go_roundw
        case rel => exact ⟨2, rfl, by omega, HB.out.trans (HB2.out.mono HB.out.size), by simp, by simp⟩
        case measure => simp [intOf]
    · obtain rfl := hq1 (by omega)
      obtain rfl := hq2 (by omega)
      clear hq1 hq2
      go_wp2_with fail
      go_ret
      exact ⟨rfl, HBw.out⟩

set_option maxHeartbeats 2000000 in
theorem passesSeat (c : CallV) (g g1 : Nat) (x : Int) (w : World) (hA : w.cell? ⟨g, 0, none⟩ = some (.func (Fn.func 23) #[] #[.pointer (some ⟨g1, 0, none⟩)]))
    (h1 : w.cell? ⟨g1, 0, none⟩ = some (.int .i64 x)) :
    Calls Try.prog 22 #[.agg #[.slice (some ⟨g, 0, none⟩) 1 1], .agg #[.int .i64 c.who, .int .i64 c.kind, .int .i64 c.obj, .int .i64 c.a, .int .i64 c.b, .int .i64 c.val, .bool c.is, .int .i64 c.first, .int .i64 c.last, .int .i64 c.point]] w fun e w' => e = .returned (.bool (c.who == x)) ∧ Below w.heap.size w w' := by
  have lg := World.block_lt_of_cell? w _ hA
  have l1 := World.block_lt_of_cell? w _ h1
  obtain ⟨W, hW⟩ : ∃ W, W = (w.alloc (Obj.cells #[.slice (some ⟨g, 0, none⟩) 1 1] 51)).alloc (Obj.cells #[.int .i64 c.who, .int .i64 c.kind, .int .i64 c.obj, .int .i64 c.a, .int .i64 c.b, .int .i64 c.val, .bool c.is, .int .i64 c.first, .int .i64 c.last, .int .i64 c.point] 30) := ⟨_, rfl⟩
  have hbW : Below w.heap.size w W := by rw [hW]; exact ((Below.refl _ _).alloc (Nat.le_refl _) _).alloc (by simp) _
  have HC : Blk W (w.heap.size + 1) 30 #[.int .i64 c.who, .int .i64 c.kind, .int .i64 c.obj, .int .i64 c.a, .int .i64 c.b, .int .i64 c.val, .bool c.is, .int .i64 c.first, .int .i64 c.last, .int .i64 c.point] := by
    rw [hW]
    have := Blk.made (w.alloc (Obj.cells #[.slice (some ⟨g, 0, none⟩) 1 1] 51)) 30 #[.int .i64 c.who, .int .i64 c.kind, .int .i64 c.obj, .int .i64 c.a, .int .i64 c.b, .int .i64 c.val, .bool c.is, .int .i64 c.first, .int .i64 c.last, .int .i64 c.point]
    simpa [go_sem] using this
  have HW := Lib.hid hW
  have HX := Lib.hid fun wx (h : Below w.heap.size w wx) => (show wx.cell? ⟨g, 0, none⟩ = some (.func (Fn.func 23) #[] #[.pointer (some ⟨g1, 0, none⟩)]) ∧ wx.cell? ⟨g1, 0, none⟩ = some (.int .i64 x) from
    ⟨by rw [h.cell (p := ⟨g, 0, none⟩) lg]; exact hA, by rw [h.cell (p := ⟨g1, 0, none⟩) l1]; exact h1⟩)
  clear hW hA h1 lg l1
  obtain ⟨p1, hp1⟩ : ∃ p, (c.who == x) = p := ⟨_, rfl⟩
  have H1 := Lib.hid fun g wx h => seat1_any c g x wx h
  rw [hp1] at H1 ⊢
  clear hp1
  go_enter Try.func22, Try.ntmps22
  go_wp2_with fail
  rw [← HW.out]
  go_loopw [10] (fun i wr => ∃ k : Nat, i = .int .i64 k ∧ k ≤ 1 ∧ Below W.heap.size W wr ∧ (1 ≤ k → p1 = true)) (fun i _ => 1 - (intOf i).toNat)
  case atStart => exact ⟨0, rfl, by omega, Below.refl _ _, fun h => absurd h (by decide)⟩
  case round =>
    obtain ⟨k, rfl, hk, hb, hq1⟩ := hrel
    have hbw := hbW.trans (hb.mono hbW.size)
    obtain ⟨cA, c1⟩ := HX.out _ hbw
    have HCr := HC.later hb
    have d0 : _ = some (Value.int .i64 c.who) := HCr.cell 0
    have d1 : _ = some (Value.int .i64 c.kind) := HCr.cell 1
    have d2 : _ = some (Value.int .i64 c.obj) := HCr.cell 2
    have d3 : _ = some (Value.int .i64 c.a) := HCr.cell 3
    have d4 : _ = some (Value.int .i64 c.b) := HCr.cell 4
    have d5 : _ = some (Value.int .i64 c.val) := HCr.cell 5
    have d6 : _ = some (Value.bool c.is) := HCr.cell 6
    have d7 : _ = some (Value.int .i64 c.first) := HCr.cell 7
    have d8 : _ = some (Value.int .i64 c.last) := HCr.cell 8
    have d9 : _ = some (Value.int .i64 c.point) := HCr.cell 9
    have HB := Lib.hid hb
    have HBw := Lib.hid hbw
    clear hb hbw HCr
    rcases (show k = 0 ∨ k = 1 by omega) with rfl | rfl
    · clear hq1
      go_wp2_with fail
      refine (H1.out _ _ c1).mono ?_
      rintro e w2 ⟨rfl, hb2⟩
      have HB2 := Lib.hid hb2
      clear hb2
      cases p1
      · go_wp2_with fail
        go_ret
        exact ⟨rfl, HBw.out.trans (HB2.out.mono HBw.out.size)⟩
      · go_wp2_with fail
        go_roundw
        case rel => exact ⟨1, rfl, by omega, HB.out.trans (HB2.out.mono HB.out.size), by simp⟩
        case measure => simp [intOf]
    · obtain rfl := hq1 (by omega)
      clear hq1
      go_wp2_with fail
      go_ret
      exact ⟨rfl, HBw.out⟩

set_option maxHeartbeats 2000000 in
theorem passesUpto (c : CallV) (g g1 : Nat) (x : Int) (w : World) (hA : w.cell? ⟨g, 0, none⟩ = some (.func (Fn.func 24) #[] #[.pointer (some ⟨g1, 0, none⟩)]))
    (h1 : w.cell? ⟨g1, 0, none⟩ = some (.int .i64 x)) :
    Calls Try.prog 22 #[.agg #[.slice (some ⟨g, 0, none⟩) 1 1], .agg #[.int .i64 c.who, .int .i64 c.kind, .int .i64 c.obj, .int .i64 c.a, .int .i64 c.b, .int .i64 c.val, .bool c.is, .int .i64 c.first, .int .i64 c.last, .int .i64 c.point]] w fun e w' => e = .returned (.bool (decide (c.last ≤ x))) ∧ Below w.heap.size w w' := by
  have lg := World.block_lt_of_cell? w _ hA
  have l1 := World.block_lt_of_cell? w _ h1
  obtain ⟨W, hW⟩ : ∃ W, W = (w.alloc (Obj.cells #[.slice (some ⟨g, 0, none⟩) 1 1] 51)).alloc (Obj.cells #[.int .i64 c.who, .int .i64 c.kind, .int .i64 c.obj, .int .i64 c.a, .int .i64 c.b, .int .i64 c.val, .bool c.is, .int .i64 c.first, .int .i64 c.last, .int .i64 c.point] 30) := ⟨_, rfl⟩
  have hbW : Below w.heap.size w W := by rw [hW]; exact ((Below.refl _ _).alloc (Nat.le_refl _) _).alloc (by simp) _
  have HC : Blk W (w.heap.size + 1) 30 #[.int .i64 c.who, .int .i64 c.kind, .int .i64 c.obj, .int .i64 c.a, .int .i64 c.b, .int .i64 c.val, .bool c.is, .int .i64 c.first, .int .i64 c.last, .int .i64 c.point] := by
    rw [hW]
    have := Blk.made (w.alloc (Obj.cells #[.slice (some ⟨g, 0, none⟩) 1 1] 51)) 30 #[.int .i64 c.who, .int .i64 c.kind, .int .i64 c.obj, .int .i64 c.a, .int .i64 c.b, .int .i64 c.val, .bool c.is, .int .i64 c.first, .int .i64 c.last, .int .i64 c.point]
    simpa [go_sem] using this
  have HW := Lib.hid hW
  have HX := Lib.hid fun wx (h : Below w.heap.size w wx) => (show wx.cell? ⟨g, 0, none⟩ = some (.func (Fn.func 24) #[] #[.pointer (some ⟨g1, 0, none⟩)]) ∧ wx.cell? ⟨g1, 0, none⟩ = some (.int .i64 x) from
    ⟨by rw [h.cell (p := ⟨g, 0, none⟩) lg]; exact hA, by rw [h.cell (p := ⟨g1, 0, none⟩) l1]; exact h1⟩)
  clear hW hA h1 lg l1
  obtain ⟨p1, hp1⟩ : ∃ p, (decide (c.last ≤ x)) = p := ⟨_, rfl⟩
  have H1 := Lib.hid fun g wx h => upto1_any c g x wx h
  rw [hp1] at H1 ⊢
  clear hp1
  go_enter Try.func22, Try.ntmps22
  go_wp2_with fail
  rw [← HW.out]
  go_loopw [10] (fun i wr => ∃ k : Nat, i = .int .i64 k ∧ k ≤ 1 ∧ Below W.heap.size W wr ∧ (1 ≤ k → p1 = true)) (fun i _ => 1 - (intOf i).toNat)
  case atStart => exact ⟨0, rfl, by omega, Below.refl _ _, fun h => absurd h (by decide)⟩
  case round =>
    obtain ⟨k, rfl, hk, hb, hq1⟩ := hrel
    have hbw := hbW.trans (hb.mono hbW.size)
    obtain ⟨cA, c1⟩ := HX.out _ hbw
    have HCr := HC.later hb
    have d0 : _ = some (Value.int .i64 c.who) := HCr.cell 0
    have d1 : _ = some (Value.int .i64 c.kind) := HCr.cell 1
    have d2 : _ = some (Value.int .i64 c.obj) := HCr.cell 2
    have d3 : _ = some (Value.int .i64 c.a) := HCr.cell 3
    have d4 : _ = some (Value.int .i64 c.b) := HCr.cell 4
    have d5 : _ = some (Value.int .i64 c.val) := HCr.cell 5
    have d6 : _ = some (Value.bool c.is) := HCr.cell 6
    have d7 : _ = some (Value.int .i64 c.first) := HCr.cell 7
    have d8 : _ = some (Value.int .i64 c.last) := HCr.cell 8
    have d9 : _ = some (Value.int .i64 c.point) := HCr.cell 9
    have HB := Lib.hid hb
    have HBw := Lib.hid hbw
    clear hb hbw HCr
    rcases (show k = 0 ∨ k = 1 by omega) with rfl | rfl
    · clear hq1
      go_wp2_with fail
      refine (H1.out _ _ c1).mono ?_
      rintro e w2 ⟨rfl, hb2⟩
      have HB2 := Lib.hid hb2
      clear hb2
      cases p1
      · go_wp2_with fail
        go_ret
        exact ⟨rfl, HBw.out.trans (HB2.out.mono HBw.out.size)⟩
      · go_wp2_with fail
        go_roundw
        case rel => exact ⟨1, rfl, by omega, HB.out.trans (HB2.out.mono HB.out.size), by simp⟩
        case measure => simp [intOf]
    · obtain rfl := hq1 (by omega)
      clear hq1
      go_wp2_with fail
      go_ret
      exact ⟨rfl, HBw.out⟩

end Go.Proofs.Ytedgliaablokcaa
