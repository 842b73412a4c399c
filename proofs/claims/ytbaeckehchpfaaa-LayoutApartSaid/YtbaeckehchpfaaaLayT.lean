/-
  LAYOUT: the document's places.
-/
import Derived.Test.YtbaeckehchpfaaaRows
import Derived.ProofKit
import Derived.Test.YtbaeckehchpfaaaLayR
namespace Go.Proofs.Ytbaeckehchpfaaa
open Go.ChangeShapes Go.WideShapes Go.ChangeAt Go.RowKit

set_option maxHeartbeats 2000000 in
theorem rAlive (X : Array Value) (f m a : Int) (hf13 : X[13]? = some (.int .i64 f)) (hf : 0 ≤ f ∧ f ≤ 50000) (hm0 : X[0]? = some (.int .i64 m)) (hm : 0 ≤ m ∧ m ≤ 1000) (w : World) :
    Calls Try.prog 40 #[.agg X, .int .i64 a] w fun e w' => e = .returned (.int .i64 (atL f a 0 m 1 0 1)) ∧ Below w.heap.size w w' := by
  have hbk : Blk (w.alloc (Obj.cells X 26)) w.heap.size 26 X := Blk.made w _ _
  have hb : Below w.heap.size w (w.alloc (Obj.cells X 26)) := (Below.refl _ w).alloc (Nat.le_refl _) _
  obtain ⟨V, hV⟩ : ∃ V, V = w.alloc (Obj.cells X 26) := ⟨_, rfl⟩
  rw [← hV] at hbk hb
  have hlt := hbk.lt
  have yf : ∀ y : After V, y.w.cell? ⟨w.heap.size, 13, none⟩ = some (.int .i64 f) := fun y => (y.cell hlt).trans ((hbk.cell 13).trans hf13)
  have ym : ∀ y : After V, y.w.cell? ⟨w.heap.size, 0, none⟩ = some (.int .i64 m) := fun y => (y.cell hlt).trans ((hbk.cell 0).trans hm0)
  have e1 : IntKind.i64.wrap (m - 1) = m - 1 := by rw [IntKind.wrap_i64]; omega
  have HV := Lib.hid hV
  have HB := Lib.hid hb
  clear hbk hb hV hm0 hf13
  by_cases h1 : 0 ≤ a ∧ a ≤ (m - 1)
  · have I1 := Lib.hid fun w => rin_yes a 0 (m - 1) h1 w
    have HQ : Hid (atL f a 0 m 1 0 1 = f + a) := Lib.hid (by unfold atL; rw [if_neg (by omega)]; omega)
    have e6 : IntKind.i64.wrap (f + a) = f + a := by rw [IntKind.wrap_i64]; omega
    go_enter Try.func40, Try.ntmps40
    go_wp2_with fail
    rw [← HV.out]
    refine wp_region_after (by kernel_rfl) (by kernel_rfl) ?_
    repeat (go_big_quiet_step (first
      | (go_at_call 27; with_reducible exact calls_after (I1.out _))
      | (go_at_call 58; exact calls_after (rat_yes _ _))))
    refine wpQuiet_nil ?_
    rintro _ ⟨y, rfl⟩
    go_wp2_with fail
    go_ret
    exact ⟨retI (by rw [HQ.out]), HB.out.trans (y.bel.mono HB.out.size)⟩
  · have I1 := Lib.hid fun w => rin_no a 0 (m - 1) h1 w
    have HQ : Hid (atL f a 0 m 1 0 1 = -1) := Lib.hid (by unfold atL; rw [if_pos (by omega)])
    go_enter Try.func40, Try.ntmps40
    go_wp2_with fail
    rw [← HV.out]
    refine wp_region_after (by kernel_rfl) (by kernel_rfl) ?_
    repeat (go_big_quiet_step (first
      | (go_at_call 27; with_reducible exact calls_after (I1.out _))
      | (go_at_call 58; exact calls_after (rat_no _ _))))
    refine wpQuiet_nil ?_
    rintro _ ⟨y, rfl⟩
    go_wp2_with fail
    go_ret
    exact ⟨retI HQ.out.symm, HB.out.trans (y.bel.mono HB.out.size)⟩

set_option maxHeartbeats 2000000 in
theorem rOwner (X : Array Value) (f m a : Int) (hf14 : X[14]? = some (.int .i64 f)) (hf : 0 ≤ f ∧ f ≤ 50000) (hm0 : X[0]? = some (.int .i64 m)) (hm : 0 ≤ m ∧ m ≤ 1000) (w : World) :
    Calls Try.prog 41 #[.agg X, .int .i64 a] w fun e w' => e = .returned (.int .i64 (atL f a 0 m 1 0 1)) ∧ Below w.heap.size w w' := by
  have hbk : Blk (w.alloc (Obj.cells X 26)) w.heap.size 26 X := Blk.made w _ _
  have hb : Below w.heap.size w (w.alloc (Obj.cells X 26)) := (Below.refl _ w).alloc (Nat.le_refl _) _
  obtain ⟨V, hV⟩ : ∃ V, V = w.alloc (Obj.cells X 26) := ⟨_, rfl⟩
  rw [← hV] at hbk hb
  have hlt := hbk.lt
  have yf : ∀ y : After V, y.w.cell? ⟨w.heap.size, 14, none⟩ = some (.int .i64 f) := fun y => (y.cell hlt).trans ((hbk.cell 14).trans hf14)
  have ym : ∀ y : After V, y.w.cell? ⟨w.heap.size, 0, none⟩ = some (.int .i64 m) := fun y => (y.cell hlt).trans ((hbk.cell 0).trans hm0)
  have e1 : IntKind.i64.wrap (m - 1) = m - 1 := by rw [IntKind.wrap_i64]; omega
  have HV := Lib.hid hV
  have HB := Lib.hid hb
  clear hbk hb hV hm0 hf14
  by_cases h1 : 0 ≤ a ∧ a ≤ (m - 1)
  · have I1 := Lib.hid fun w => rin_yes a 0 (m - 1) h1 w
    have HQ : Hid (atL f a 0 m 1 0 1 = f + a) := Lib.hid (by unfold atL; rw [if_neg (by omega)]; omega)
    have e6 : IntKind.i64.wrap (f + a) = f + a := by rw [IntKind.wrap_i64]; omega
    go_enter Try.func41, Try.ntmps41
    go_wp2_with fail
    rw [← HV.out]
    refine wp_region_after (by kernel_rfl) (by kernel_rfl) ?_
    repeat (go_big_quiet_step (first
      | (go_at_call 27; with_reducible exact calls_after (I1.out _))
      | (go_at_call 58; exact calls_after (rat_yes _ _))))
    refine wpQuiet_nil ?_
    rintro _ ⟨y, rfl⟩
    go_wp2_with fail
    go_ret
    exact ⟨retI (by rw [HQ.out]), HB.out.trans (y.bel.mono HB.out.size)⟩
  · have I1 := Lib.hid fun w => rin_no a 0 (m - 1) h1 w
    have HQ : Hid (atL f a 0 m 1 0 1 = -1) := Lib.hid (by unfold atL; rw [if_pos (by omega)])
    go_enter Try.func41, Try.ntmps41
    go_wp2_with fail
    rw [← HV.out]
    refine wp_region_after (by kernel_rfl) (by kernel_rfl) ?_
    repeat (go_big_quiet_step (first
      | (go_at_call 27; with_reducible exact calls_after (I1.out _))
      | (go_at_call 58; exact calls_after (rat_no _ _))))
    refine wpQuiet_nil ?_
    rintro _ ⟨y, rfl⟩
    go_wp2_with fail
    go_ret
    exact ⟨retI HQ.out.symm, HB.out.trans (y.bel.mono HB.out.size)⟩

set_option maxHeartbeats 2000000 in
theorem rResv (X : Array Value) (f m a b : Int) (hf15 : X[15]? = some (.int .i64 f)) (hf : 0 ≤ f ∧ f ≤ 50000) (hm0 : X[0]? = some (.int .i64 m)) (hm : 0 ≤ m ∧ m ≤ 1000) (w : World) :
    Calls Try.prog 42 #[.agg X, .int .i64 a, .int .i64 b] w fun e w' => e = .returned (.int .i64 (atL f a 0 m 3 b 3)) ∧ Below w.heap.size w w' := by
  have hbk : Blk (w.alloc (Obj.cells X 26)) w.heap.size 26 X := Blk.made w _ _
  have hb : Below w.heap.size w (w.alloc (Obj.cells X 26)) := (Below.refl _ w).alloc (Nat.le_refl _) _
  obtain ⟨V, hV⟩ : ∃ V, V = w.alloc (Obj.cells X 26) := ⟨_, rfl⟩
  rw [← hV] at hbk hb
  have hlt := hbk.lt
  have yf : ∀ y : After V, y.w.cell? ⟨w.heap.size, 15, none⟩ = some (.int .i64 f) := fun y => (y.cell hlt).trans ((hbk.cell 15).trans hf15)
  have ym : ∀ y : After V, y.w.cell? ⟨w.heap.size, 0, none⟩ = some (.int .i64 m) := fun y => (y.cell hlt).trans ((hbk.cell 0).trans hm0)
  have e1 : IntKind.i64.wrap (m - 1) = m - 1 := by rw [IntKind.wrap_i64]; omega
  have HV := Lib.hid hV
  have HB := Lib.hid hb
  clear hbk hb hV hm0 hf15
  by_cases h1 : 0 ≤ a ∧ a ≤ (m - 1)
  · have I1 := Lib.hid fun w => rin_yes a 0 (m - 1) h1 w
    by_cases h2 : 0 ≤ b ∧ b ≤ 2
    · have I2 := Lib.hid fun w => rin_yes b 0 2 h2 w
      have HQ : Hid (atL f a 0 m 3 b 3 = f + 3 * a + b) := Lib.hid (by unfold atL; rw [if_neg (by omega)]; omega)
      have e5 : IntKind.i64.wrap (3 * a) = 3 * a := by rw [IntKind.wrap_i64]; omega
      have e6 : IntKind.i64.wrap (f + 3 * a) = f + 3 * a := by rw [IntKind.wrap_i64]; omega
      have e8 : IntKind.i64.wrap (f + 3 * a + b) = f + 3 * a + b := by rw [IntKind.wrap_i64]; omega
      go_enter Try.func42, Try.ntmps42
      go_wp2_with fail
      rw [← HV.out]
      refine wp_region_after (by kernel_rfl) (by kernel_rfl) ?_
      repeat (go_big_quiet_step (first
        | (go_at_call 27; with_reducible exact calls_after (I1.out _))
        | (go_at_call 27; with_reducible exact calls_after (I2.out _))
        | (go_at_call 58; exact calls_after (rat_yes _ _))))
      refine wpQuiet_nil ?_
      rintro _ ⟨y, rfl⟩
      go_wp2_with fail
      go_ret
      exact ⟨retI (by rw [HQ.out]), HB.out.trans (y.bel.mono HB.out.size)⟩
    · have I2 := Lib.hid fun w => rin_no b 0 2 h2 w
      have HQ : Hid (atL f a 0 m 3 b 3 = -1) := Lib.hid (by unfold atL; rw [if_pos (by omega)])
      go_enter Try.func42, Try.ntmps42
      go_wp2_with fail
      rw [← HV.out]
      refine wp_region_after (by kernel_rfl) (by kernel_rfl) ?_
      repeat (go_big_quiet_step (first
        | (go_at_call 27; with_reducible exact calls_after (I1.out _))
        | (go_at_call 27; with_reducible exact calls_after (I2.out _))
        | (go_at_call 58; exact calls_after (rat_no _ _))))
      refine wpQuiet_nil ?_
      rintro _ ⟨y, rfl⟩
      go_wp2_with fail
      go_ret
      exact ⟨retI HQ.out.symm, HB.out.trans (y.bel.mono HB.out.size)⟩
  · have I1 := Lib.hid fun w => rin_no a 0 (m - 1) h1 w
    have HQ : Hid (atL f a 0 m 3 b 3 = -1) := Lib.hid (by unfold atL; rw [if_pos (by omega)])
    go_enter Try.func42, Try.ntmps42
    go_wp2_with fail
    rw [← HV.out]
    refine wp_region_after (by kernel_rfl) (by kernel_rfl) ?_
    repeat (go_big_quiet_step (first
      | (go_at_call 27; with_reducible exact calls_after (I1.out _))
      | (go_at_call 58; exact calls_after (rat_no _ _))))
    refine wpQuiet_nil ?_
    rintro _ ⟨y, rfl⟩
    go_wp2_with fail
    go_ret
    exact ⟨retI HQ.out.symm, HB.out.trans (y.bel.mono HB.out.size)⟩

set_option maxHeartbeats 2000000 in
theorem rCell (X : Array Value) (f m a : Int) (hf19 : X[19]? = some (.int .i64 f)) (hf : 0 ≤ f ∧ f ≤ 50000) (hm5 : X[5]? = some (.int .i64 m)) (hm : 0 ≤ m ∧ m ≤ 1000) (w : World) :
    Calls Try.prog 46 #[.agg X, .int .i64 a] w fun e w' => e = .returned (.int .i64 (atL f a 0 m 1 0 1)) ∧ Below w.heap.size w w' := by
  have hbk : Blk (w.alloc (Obj.cells X 26)) w.heap.size 26 X := Blk.made w _ _
  have hb : Below w.heap.size w (w.alloc (Obj.cells X 26)) := (Below.refl _ w).alloc (Nat.le_refl _) _
  obtain ⟨V, hV⟩ : ∃ V, V = w.alloc (Obj.cells X 26) := ⟨_, rfl⟩
  rw [← hV] at hbk hb
  have hlt := hbk.lt
  have yf : ∀ y : After V, y.w.cell? ⟨w.heap.size, 19, none⟩ = some (.int .i64 f) := fun y => (y.cell hlt).trans ((hbk.cell 19).trans hf19)
  have ym : ∀ y : After V, y.w.cell? ⟨w.heap.size, 5, none⟩ = some (.int .i64 m) := fun y => (y.cell hlt).trans ((hbk.cell 5).trans hm5)
  have e1 : IntKind.i64.wrap (m - 1) = m - 1 := by rw [IntKind.wrap_i64]; omega
  have HV := Lib.hid hV
  have HB := Lib.hid hb
  clear hbk hb hV hm5 hf19
  by_cases h1 : 0 ≤ a ∧ a ≤ (m - 1)
  · have I1 := Lib.hid fun w => rin_yes a 0 (m - 1) h1 w
    have HQ : Hid (atL f a 0 m 1 0 1 = f + a) := Lib.hid (by unfold atL; rw [if_neg (by omega)]; omega)
    have e6 : IntKind.i64.wrap (f + a) = f + a := by rw [IntKind.wrap_i64]; omega
    go_enter Try.func46, Try.ntmps46
    go_wp2_with fail
    rw [← HV.out]
    refine wp_region_after (by kernel_rfl) (by kernel_rfl) ?_
    repeat (go_big_quiet_step (first
      | (go_at_call 27; with_reducible exact calls_after (I1.out _))
      | (go_at_call 58; exact calls_after (rat_yes _ _))))
    refine wpQuiet_nil ?_
    rintro _ ⟨y, rfl⟩
    go_wp2_with fail
    go_ret
    exact ⟨retI (by rw [HQ.out]), HB.out.trans (y.bel.mono HB.out.size)⟩
  · have I1 := Lib.hid fun w => rin_no a 0 (m - 1) h1 w
    have HQ : Hid (atL f a 0 m 1 0 1 = -1) := Lib.hid (by unfold atL; rw [if_pos (by omega)])
    go_enter Try.func46, Try.ntmps46
    go_wp2_with fail
    rw [← HV.out]
    refine wp_region_after (by kernel_rfl) (by kernel_rfl) ?_
    repeat (go_big_quiet_step (first
      | (go_at_call 27; with_reducible exact calls_after (I1.out _))
      | (go_at_call 58; exact calls_after (rat_no _ _))))
    refine wpQuiet_nil ?_
    rintro _ ⟨y, rfl⟩
    go_wp2_with fail
    go_ret
    exact ⟨retI HQ.out.symm, HB.out.trans (y.bel.mono HB.out.size)⟩

set_option maxHeartbeats 2000000 in
theorem rHead (X : Array Value) (f m a : Int) (hf22 : X[22]? = some (.int .i64 f)) (hf : 0 ≤ f ∧ f ≤ 50000) (hm8 : X[8]? = some (.int .i64 m)) (hm : 0 ≤ m ∧ m ≤ 1000) (w : World) :
    Calls Try.prog 51 #[.agg X, .int .i64 a] w fun e w' => e = .returned (.int .i64 (atL f a 0 m 2 0 1)) ∧ Below w.heap.size w w' := by
  have hbk : Blk (w.alloc (Obj.cells X 26)) w.heap.size 26 X := Blk.made w _ _
  have hb : Below w.heap.size w (w.alloc (Obj.cells X 26)) := (Below.refl _ w).alloc (Nat.le_refl _) _
  obtain ⟨V, hV⟩ : ∃ V, V = w.alloc (Obj.cells X 26) := ⟨_, rfl⟩
  rw [← hV] at hbk hb
  have hlt := hbk.lt
  have yf : ∀ y : After V, y.w.cell? ⟨w.heap.size, 22, none⟩ = some (.int .i64 f) := fun y => (y.cell hlt).trans ((hbk.cell 22).trans hf22)
  have ym : ∀ y : After V, y.w.cell? ⟨w.heap.size, 8, none⟩ = some (.int .i64 m) := fun y => (y.cell hlt).trans ((hbk.cell 8).trans hm8)
  have e1 : IntKind.i64.wrap (m - 1) = m - 1 := by rw [IntKind.wrap_i64]; omega
  have HV := Lib.hid hV
  have HB := Lib.hid hb
  clear hbk hb hV hf22 hm8
  by_cases h1 : 0 ≤ a ∧ a ≤ (m - 1)
  · have I1 := Lib.hid fun w => rin_yes a 0 (m - 1) h1 w
    have HQ : Hid (atL f a 0 m 2 0 1 = f + 2 * a) := Lib.hid (by unfold atL; rw [if_neg (by omega)]; omega)
    have e5 : IntKind.i64.wrap (2 * a) = 2 * a := by rw [IntKind.wrap_i64]; omega
    have e6 : IntKind.i64.wrap (f + 2 * a) = f + 2 * a := by rw [IntKind.wrap_i64]; omega
    go_enter Try.func51, Try.ntmps51
    go_wp2_with fail
    rw [← HV.out]
    refine wp_region_after (by kernel_rfl) (by kernel_rfl) ?_
    repeat (go_big_quiet_step (first
      | (go_at_call 27; with_reducible exact calls_after (I1.out _))
      | (go_at_call 58; exact calls_after (rat_yes _ _))))
    refine wpQuiet_nil ?_
    rintro _ ⟨y, rfl⟩
    go_wp2_with fail
    go_ret
    exact ⟨retI (by rw [HQ.out]), HB.out.trans (y.bel.mono HB.out.size)⟩
  · have I1 := Lib.hid fun w => rin_no a 0 (m - 1) h1 w
    have HQ : Hid (atL f a 0 m 2 0 1 = -1) := Lib.hid (by unfold atL; rw [if_pos (by omega)])
    go_enter Try.func51, Try.ntmps51
    go_wp2_with fail
    rw [← HV.out]
    refine wp_region_after (by kernel_rfl) (by kernel_rfl) ?_
    repeat (go_big_quiet_step (first
      | (go_at_call 27; with_reducible exact calls_after (I1.out _))
      | (go_at_call 58; exact calls_after (rat_no _ _))))
    refine wpQuiet_nil ?_
    rintro _ ⟨y, rfl⟩
    go_wp2_with fail
    go_ret
    exact ⟨retI HQ.out.symm, HB.out.trans (y.bel.mono HB.out.size)⟩

set_option maxHeartbeats 2000000 in
theorem rTail (X : Array Value) (f m a : Int) (hf22 : X[22]? = some (.int .i64 f)) (hf : 0 ≤ f ∧ f ≤ 50000) (hm8 : X[8]? = some (.int .i64 m)) (hm : 0 ≤ m ∧ m ≤ 1000) (w : World) :
    Calls Try.prog 52 #[.agg X, .int .i64 a] w fun e w' => e = .returned (.int .i64 (atL (f + 1) a 0 m 2 0 1)) ∧ Below w.heap.size w w' := by
  have hbk : Blk (w.alloc (Obj.cells X 26)) w.heap.size 26 X := Blk.made w _ _
  have hb : Below w.heap.size w (w.alloc (Obj.cells X 26)) := (Below.refl _ w).alloc (Nat.le_refl _) _
  obtain ⟨V, hV⟩ : ∃ V, V = w.alloc (Obj.cells X 26) := ⟨_, rfl⟩
  rw [← hV] at hbk hb
  have hlt := hbk.lt
  have yf : ∀ y : After V, y.w.cell? ⟨w.heap.size, 22, none⟩ = some (.int .i64 f) := fun y => (y.cell hlt).trans ((hbk.cell 22).trans hf22)
  have ym : ∀ y : After V, y.w.cell? ⟨w.heap.size, 8, none⟩ = some (.int .i64 m) := fun y => (y.cell hlt).trans ((hbk.cell 8).trans hm8)
  have e1 : IntKind.i64.wrap (m - 1) = m - 1 := by rw [IntKind.wrap_i64]; omega
  have HV := Lib.hid hV
  have HB := Lib.hid hb
  clear hbk hb hV hf22 hm8
  by_cases h1 : 0 ≤ a ∧ a ≤ (m - 1)
  · have I1 := Lib.hid fun w => rin_yes a 0 (m - 1) h1 w
    have HQ : Hid (atL (f + 1) a 0 m 2 0 1 = f + 2 * a + 1) := Lib.hid (by unfold atL; rw [if_neg (by omega)]; omega)
    have e5 : IntKind.i64.wrap (2 * a) = 2 * a := by rw [IntKind.wrap_i64]; omega
    have e6 : IntKind.i64.wrap (f + 2 * a) = f + 2 * a := by rw [IntKind.wrap_i64]; omega
    have e7 : IntKind.i64.wrap (f + 2 * a + 1) = f + 2 * a + 1 := by rw [IntKind.wrap_i64]; omega
    go_enter Try.func52, Try.ntmps52
    go_wp2_with fail
    rw [← HV.out]
    refine wp_region_after (by kernel_rfl) (by kernel_rfl) ?_
    repeat (go_big_quiet_step (first
      | (go_at_call 27; with_reducible exact calls_after (I1.out _))
      | (go_at_call 58; exact calls_after (rat_yes _ _))))
    refine wpQuiet_nil ?_
    rintro _ ⟨y, rfl⟩
    go_wp2_with fail
    go_ret
    exact ⟨retI (by rw [HQ.out]), HB.out.trans (y.bel.mono HB.out.size)⟩
  · have I1 := Lib.hid fun w => rin_no a 0 (m - 1) h1 w
    have HQ : Hid (atL (f + 1) a 0 m 2 0 1 = -1) := Lib.hid (by unfold atL; rw [if_pos (by omega)])
    go_enter Try.func52, Try.ntmps52
    go_wp2_with fail
    rw [← HV.out]
    refine wp_region_after (by kernel_rfl) (by kernel_rfl) ?_
    repeat (go_big_quiet_step (first
      | (go_at_call 27; with_reducible exact calls_after (I1.out _))
      | (go_at_call 58; exact calls_after (rat_no _ _))))
    refine wpQuiet_nil ?_
    rintro _ ⟨y, rfl⟩
    go_wp2_with fail
    go_ret
    exact ⟨retI HQ.out.symm, HB.out.trans (y.bel.mono HB.out.size)⟩

end Go.Proofs.Ytbaeckehchpfaaa
