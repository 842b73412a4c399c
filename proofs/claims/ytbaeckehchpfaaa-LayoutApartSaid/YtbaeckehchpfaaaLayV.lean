/-
  LAYOUT: the document's places.
-/
import Derived.Test.YtbaeckehchpfaaaRows
import Derived.ProofKit
import Derived.Test.YtbaeckehchpfaaaLayR
namespace Go.Proofs.Ytbaeckehchpfaaa
open Go.ChangeShapes Go.WideShapes Go.ChangeAt Go.RowKit

set_option maxHeartbeats 2000000 in
theorem rDeque (X : Array Value) (f m a b : Int) (hf16 : X[16]? = some (.int .i64 f)) (hf : 0 ≤ f ∧ f ≤ 50000) (hm0 : X[0]? = some (.int .i64 m)) (hm : 0 ≤ m ∧ m ≤ 1000) (w : World) :
    Calls Try.prog 43 #[.agg X, .int .i64 a, .int .i64 b] w fun e w' => e = .returned (.int .i64 (atL f a 0 m 3 b 3)) ∧ Below w.heap.size w w' := by
  have hbk : Blk (w.alloc (Obj.cells X 26)) w.heap.size 26 X := Blk.made w _ _
  have hb : Below w.heap.size w (w.alloc (Obj.cells X 26)) := (Below.refl _ w).alloc (Nat.le_refl _) _
  obtain ⟨V, hV⟩ : ∃ V, V = w.alloc (Obj.cells X 26) := ⟨_, rfl⟩
  rw [← hV] at hbk hb
  have hlt := hbk.lt
  have yf : ∀ y : After V, y.w.cell? ⟨w.heap.size, 16, none⟩ = some (.int .i64 f) := fun y => (y.cell hlt).trans ((hbk.cell 16).trans hf16)
  have ym : ∀ y : After V, y.w.cell? ⟨w.heap.size, 0, none⟩ = some (.int .i64 m) := fun y => (y.cell hlt).trans ((hbk.cell 0).trans hm0)
  have e1 : IntKind.i64.wrap (m - 1) = m - 1 := by rw [IntKind.wrap_i64]; omega
  have HV := Lib.hid hV
  have HB := Lib.hid hb
  clear hbk hb hV hm0 hf16
  by_cases h1 : 0 ≤ a ∧ a ≤ (m - 1)
  · have I1 := Lib.hid fun w => rin_yes a 0 (m - 1) h1 w
    by_cases h2 : 0 ≤ b ∧ b ≤ 2
    · have I2 := Lib.hid fun w => rin_yes b 0 2 h2 w
      have HQ : Hid (atL f a 0 m 3 b 3 = f + 3 * a + b) := Lib.hid (by unfold atL; rw [if_neg (by omega)]; omega)
      have e5 : IntKind.i64.wrap (3 * a) = 3 * a := by rw [IntKind.wrap_i64]; omega
      have e6 : IntKind.i64.wrap (f + 3 * a) = f + 3 * a := by rw [IntKind.wrap_i64]; omega
      have e8 : IntKind.i64.wrap (f + 3 * a + b) = f + 3 * a + b := by rw [IntKind.wrap_i64]; omega
      go_enter Try.func43, Try.ntmps43
      go_wp2_with fail
      rw [← HV.out]
      refine wp_region_after (by kernel_rfl) (by kernel_rfl) ?_
      repeat (go_big_quiet_step (first
        | (go_at_call 27; with_reducible exact calls_after (I1.out _))
        | (go_at_call 27; with_reducible exact calls_after (I2.out _))
        | (go_at_call 58; exact calls_after (rat_yes _ _))))
      refine wpQuiet_nil ?_
      rintro _ ⟨y, rfl⟩
      go_wp2_with fail
      go_ret
      exact ⟨retI (by rw [HQ.out]), HB.out.trans (y.bel.mono HB.out.size)⟩
    · have I2 := Lib.hid fun w => rin_no b 0 2 h2 w
      have HQ : Hid (atL f a 0 m 3 b 3 = -1) := Lib.hid (by unfold atL; rw [if_pos (by omega)])
      go_enter Try.func43, Try.ntmps43
      go_wp2_with fail
      rw [← HV.out]
      refine wp_region_after (by kernel_rfl) (by kernel_rfl) ?_
      repeat (go_big_quiet_step (first
        | (go_at_call 27; with_reducible exact calls_after (I1.out _))
        | (go_at_call 27; with_reducible exact calls_after (I2.out _))
        | (go_at_call 58; exact calls_after (rat_no _ _))))
      refine wpQuiet_nil ?_
      rintro _ ⟨y, rfl⟩
      go_wp2_with fail
      go_ret
      exact ⟨retI HQ.out.symm, HB.out.trans (y.bel.mono HB.out.size)⟩
  · have I1 := Lib.hid fun w => rin_no a 0 (m - 1) h1 w
    have HQ : Hid (atL f a 0 m 3 b 3 = -1) := Lib.hid (by unfold atL; rw [if_pos (by omega)])
    go_enter Try.func43, Try.ntmps43
    go_wp2_with fail
    rw [← HV.out]
    refine wp_region_after (by kernel_rfl) (by kernel_rfl) ?_
    repeat (go_big_quiet_step (first
      | (go_at_call 27; with_reducible exact calls_after (I1.out _))
      | (go_at_call 58; exact calls_after (rat_no _ _))))
    refine wpQuiet_nil ?_
    rintro _ ⟨y, rfl⟩
    go_wp2_with fail
    go_ret
    exact ⟨retI HQ.out.symm, HB.out.trans (y.bel.mono HB.out.size)⟩

set_option maxHeartbeats 2000000 in
theorem rTask (X : Array Value) (f m a b : Int) (hf18 : X[18]? = some (.int .i64 f)) (hf : 0 ≤ f ∧ f ≤ 50000) (hm4 : X[4]? = some (.int .i64 m)) (hm : 0 ≤ m ∧ m ≤ 1000) (w : World) :
    Calls Try.prog 45 #[.agg X, .int .i64 a, .int .i64 b] w fun e w' => e = .returned (.int .i64 (atL f a 1 m 4 b 4)) ∧ Below w.heap.size w w' := by
  have hbk : Blk (w.alloc (Obj.cells X 26)) w.heap.size 26 X := Blk.made w _ _
  have hb : Below w.heap.size w (w.alloc (Obj.cells X 26)) := (Below.refl _ w).alloc (Nat.le_refl _) _
  obtain ⟨V, hV⟩ : ∃ V, V = w.alloc (Obj.cells X 26) := ⟨_, rfl⟩
  rw [← hV] at hbk hb
  have hlt := hbk.lt
  have yf : ∀ y : After V, y.w.cell? ⟨w.heap.size, 18, none⟩ = some (.int .i64 f) := fun y => (y.cell hlt).trans ((hbk.cell 18).trans hf18)
  have ym : ∀ y : After V, y.w.cell? ⟨w.heap.size, 4, none⟩ = some (.int .i64 m) := fun y => (y.cell hlt).trans ((hbk.cell 4).trans hm4)
  have HV := Lib.hid hV
  have HB := Lib.hid hb
  clear hbk hb hV hm4 hf18
  by_cases h1 : 1 ≤ a ∧ a ≤ m
  · have I1 := Lib.hid fun w => rin_yes a 1 m h1 w
    by_cases h2 : 0 ≤ b ∧ b ≤ 3
    · have I2 := Lib.hid fun w => rin_yes b 0 3 h2 w
      have HQ : Hid (atL f a 1 m 4 b 4 = f + 4 * (a - 1) + b) := Lib.hid (by unfold atL; rw [if_neg (by omega)]; omega)
      have e4 : IntKind.i64.wrap (a - 1) = a - 1 := by rw [IntKind.wrap_i64]; omega
      have e5 : IntKind.i64.wrap (4 * (a - 1)) = 4 * (a - 1) := by rw [IntKind.wrap_i64]; omega
      have e6 : IntKind.i64.wrap (f + 4 * (a - 1)) = f + 4 * (a - 1) := by rw [IntKind.wrap_i64]; omega
      have e8 : IntKind.i64.wrap (f + 4 * (a - 1) + b) = f + 4 * (a - 1) + b := by rw [IntKind.wrap_i64]; omega
      go_enter Try.func45, Try.ntmps45
      go_wp2_with fail
      rw [← HV.out]
      refine wp_region_after (by kernel_rfl) (by kernel_rfl) ?_
      repeat (go_big_quiet_step (first
        | (go_at_call 27; with_reducible exact calls_after (I1.out _))
        | (go_at_call 27; with_reducible exact calls_after (I2.out _))
        | (go_at_call 58; exact calls_after (rat_yes _ _))))
      refine wpQuiet_nil ?_
      rintro _ ⟨y, rfl⟩
      go_wp2_with fail
      go_ret
      exact ⟨retI (by rw [HQ.out]), HB.out.trans (y.bel.mono HB.out.size)⟩
    · have I2 := Lib.hid fun w => rin_no b 0 3 h2 w
      have HQ : Hid (atL f a 1 m 4 b 4 = -1) := Lib.hid (by unfold atL; rw [if_pos (by omega)])
      go_enter Try.func45, Try.ntmps45
      go_wp2_with fail
      rw [← HV.out]
      refine wp_region_after (by kernel_rfl) (by kernel_rfl) ?_
      repeat (go_big_quiet_step (first
        | (go_at_call 27; with_reducible exact calls_after (I1.out _))
        | (go_at_call 27; with_reducible exact calls_after (I2.out _))
        | (go_at_call 58; exact calls_after (rat_no _ _))))
      refine wpQuiet_nil ?_
      rintro _ ⟨y, rfl⟩
      go_wp2_with fail
      go_ret
      exact ⟨retI HQ.out.symm, HB.out.trans (y.bel.mono HB.out.size)⟩
  · have I1 := Lib.hid fun w => rin_no a 1 m h1 w
    have HQ : Hid (atL f a 1 m 4 b 4 = -1) := Lib.hid (by unfold atL; rw [if_pos (by omega)])
    go_enter Try.func45, Try.ntmps45
    go_wp2_with fail
    rw [← HV.out]
    refine wp_region_after (by kernel_rfl) (by kernel_rfl) ?_
    repeat (go_big_quiet_step (first
      | (go_at_call 27; with_reducible exact calls_after (I1.out _))
      | (go_at_call 58; exact calls_after (rat_no _ _))))
    refine wpQuiet_nil ?_
    rintro _ ⟨y, rfl⟩
    go_wp2_with fail
    go_ret
    exact ⟨retI HQ.out.symm, HB.out.trans (y.bel.mono HB.out.size)⟩

set_option maxHeartbeats 2000000 in
theorem rNode (X : Array Value) (f m a b : Int) (hf23 : X[23]? = some (.int .i64 f)) (hf : 0 ≤ f ∧ f ≤ 50000) (hm1 : X[1]? = some (.int .i64 m)) (hm : 0 ≤ m ∧ m ≤ 1000) (w : World) :
    Calls Try.prog 53 #[.agg X, .int .i64 a, .int .i64 b] w fun e w' => e = .returned (.int .i64 (atL f a 1 m 8 b 8)) ∧ Below w.heap.size w w' := by
  have hbk : Blk (w.alloc (Obj.cells X 26)) w.heap.size 26 X := Blk.made w _ _
  have hb : Below w.heap.size w (w.alloc (Obj.cells X 26)) := (Below.refl _ w).alloc (Nat.le_refl _) _
  obtain ⟨V, hV⟩ : ∃ V, V = w.alloc (Obj.cells X 26) := ⟨_, rfl⟩
  rw [← hV] at hbk hb
  have hlt := hbk.lt
  have yf : ∀ y : After V, y.w.cell? ⟨w.heap.size, 23, none⟩ = some (.int .i64 f) := fun y => (y.cell hlt).trans ((hbk.cell 23).trans hf23)
  have ym : ∀ y : After V, y.w.cell? ⟨w.heap.size, 1, none⟩ = some (.int .i64 m) := fun y => (y.cell hlt).trans ((hbk.cell 1).trans hm1)
  have HV := Lib.hid hV
  have HB := Lib.hid hb
  clear hbk hb hV hm1 hf23
  by_cases h1 : 1 ≤ a ∧ a ≤ m
  · have I1 := Lib.hid fun w => rin_yes a 1 m h1 w
    by_cases h2 : 0 ≤ b ∧ b ≤ 7
    · have I2 := Lib.hid fun w => rin_yes b 0 7 h2 w
      have HQ : Hid (atL f a 1 m 8 b 8 = f + 8 * (a - 1) + b) := Lib.hid (by unfold atL; rw [if_neg (by omega)]; omega)
      have e4 : IntKind.i64.wrap (a - 1) = a - 1 := by rw [IntKind.wrap_i64]; omega
      have e5 : IntKind.i64.wrap (8 * (a - 1)) = 8 * (a - 1) := by rw [IntKind.wrap_i64]; omega
      have e6 : IntKind.i64.wrap (f + 8 * (a - 1)) = f + 8 * (a - 1) := by rw [IntKind.wrap_i64]; omega
      have e8 : IntKind.i64.wrap (f + 8 * (a - 1) + b) = f + 8 * (a - 1) + b := by rw [IntKind.wrap_i64]; omega
      go_enter Try.func53, Try.ntmps53
      go_wp2_with fail
      rw [← HV.out]
      refine wp_region_after (by kernel_rfl) (by kernel_rfl) ?_
      repeat (go_big_quiet_step (first
        | (go_at_call 27; with_reducible exact calls_after (I1.out _))
        | (go_at_call 27; with_reducible exact calls_after (I2.out _))
        | (go_at_call 58; exact calls_after (rat_yes _ _))))
      refine wpQuiet_nil ?_
      rintro _ ⟨y, rfl⟩
      go_wp2_with fail
      go_ret
      exact ⟨retI (by rw [HQ.out]), HB.out.trans (y.bel.mono HB.out.size)⟩
    · have I2 := Lib.hid fun w => rin_no b 0 7 h2 w
      have HQ : Hid (atL f a 1 m 8 b 8 = -1) := Lib.hid (by unfold atL; rw [if_pos (by omega)])
      go_enter Try.func53, Try.ntmps53
      go_wp2_with fail
      rw [← HV.out]
      refine wp_region_after (by kernel_rfl) (by kernel_rfl) ?_
      repeat (go_big_quiet_step (first
        | (go_at_call 27; with_reducible exact calls_after (I1.out _))
        | (go_at_call 27; with_reducible exact calls_after (I2.out _))
        | (go_at_call 58; exact calls_after (rat_no _ _))))
      refine wpQuiet_nil ?_
      rintro _ ⟨y, rfl⟩
      go_wp2_with fail
      go_ret
      exact ⟨retI HQ.out.symm, HB.out.trans (y.bel.mono HB.out.size)⟩
  · have I1 := Lib.hid fun w => rin_no a 1 m h1 w
    have HQ : Hid (atL f a 1 m 8 b 8 = -1) := Lib.hid (by unfold atL; rw [if_pos (by omega)])
    go_enter Try.func53, Try.ntmps53
    go_wp2_with fail
    rw [← HV.out]
    refine wp_region_after (by kernel_rfl) (by kernel_rfl) ?_
    repeat (go_big_quiet_step (first
      | (go_at_call 27; with_reducible exact calls_after (I1.out _))
      | (go_at_call 58; exact calls_after (rat_no _ _))))
    refine wpQuiet_nil ?_
    rintro _ ⟨y, rfl⟩
    go_wp2_with fail
    go_ret
    exact ⟨retI HQ.out.symm, HB.out.trans (y.bel.mono HB.out.size)⟩

end Go.Proofs.Ytbaeckehchpfaaa
