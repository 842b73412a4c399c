/-
  LAYOUT: the document's places.
-/
import Derived.Test.YtbaeckehchpfaaaRows
import Derived.ProofKit
import Derived.Test.YtbaeckehchpfaaaLayR
namespace Go.Proofs.Ytbaeckehchpfaaa
open Go.ChangeShapes Go.WideShapes Go.ChangeAt Go.RowKit

set_option maxHeartbeats 2000000 in
theorem rMap (X : Array Value) (f m a b x : Int) (hf20 : X[20]? = some (.int .i64 f)) (hf : 0 ≤ f ∧ f ≤ 50000) (hm6 : X[6]? = some (.int .i64 m)) (hm : 0 ≤ m ∧ m ≤ 1000) (hx2 : X[2]? = some (.int .i64 x)) (hx : 0 ≤ x ∧ x ≤ 100) (w : World) :
    Calls Try.prog 47 #[.agg X, .int .i64 a, .int .i64 b] w fun e w' => e = .returned (.int .i64 (atL f a 0 m (2 + x) b 2)) ∧ Below w.heap.size w w' := by
  have hbk : Blk (w.alloc (Obj.cells X 26)) w.heap.size 26 X := Blk.made w _ _
  have hb : Below w.heap.size w (w.alloc (Obj.cells X 26)) := (Below.refl _ w).alloc (Nat.le_refl _) _
  obtain ⟨V, hV⟩ : ∃ V, V = w.alloc (Obj.cells X 26) := ⟨_, rfl⟩
  rw [← hV] at hbk hb
  have hlt := hbk.lt
  have yf : ∀ y : After V, y.w.cell? ⟨w.heap.size, 20, none⟩ = some (.int .i64 f) := fun y => (y.cell hlt).trans ((hbk.cell 20).trans hf20)
  have ym : ∀ y : After V, y.w.cell? ⟨w.heap.size, 6, none⟩ = some (.int .i64 m) := fun y => (y.cell hlt).trans ((hbk.cell 6).trans hm6)
  have yx : ∀ y : After V, y.w.cell? ⟨w.heap.size, 2, none⟩ = some (.int .i64 x) := fun y => (y.cell hlt).trans ((hbk.cell 2).trans hx2)
  have e1 : IntKind.i64.wrap (m - 1) = m - 1 := by rw [IntKind.wrap_i64]; omega
  have e2 : IntKind.i64.wrap (x + 2) = x + 2 := by rw [IntKind.wrap_i64]; omega
  have HV := Lib.hid hV
  have HB := Lib.hid hb
  clear hbk hb hV hx2 hm6 hf20
  by_cases h1 : 0 ≤ a ∧ a ≤ (m - 1)
  · have I1 := Lib.hid fun w => rin_yes a 0 (m - 1) h1 w
    by_cases h2 : 0 ≤ b ∧ b ≤ 1
    · have I2 := Lib.hid fun w => rin_yes b 0 1 h2 w
      obtain ⟨P, hP⟩ : ∃ P, (x + 2) * a = P := ⟨_, rfl⟩
      have hp : 0 ≤ P ∧ P ≤ 102000 := by
        rw [← hP]
        exact ⟨Int.mul_nonneg (by omega) (by omega), by have := Int.mul_le_mul (show x + 2 ≤ 102 by omega) (show a ≤ 1000 by omega) (by omega) (by omega); omega⟩
      have e5 : IntKind.i64.wrap ((x + 2) * a) = P := by rw [hP, IntKind.wrap_i64]; omega
      have HQ : Hid (atL f a 0 m (2 + x) b 2 = f + P + b) := Lib.hid (by unfold atL; rw [if_neg (by omega), Int.sub_zero, Int.mul_comm a, Int.add_comm 2 x, hP] <;> omega)
      clear hP
      have e6 : IntKind.i64.wrap (f + P) = f + P := by rw [IntKind.wrap_i64]; omega
      have e8 : IntKind.i64.wrap (f + P + b) = f + P + b := by rw [IntKind.wrap_i64]; omega
      go_enter Try.func47, Try.ntmps47
      go_wp2_with fail
      rw [← HV.out]
      refine wp_region_after (by kernel_rfl) (by kernel_rfl) ?_
      repeat (go_big_quiet_step (first
        | (go_at_call 27; with_reducible exact calls_after (I1.out _))
        | (go_at_call 27; with_reducible exact calls_after (I2.out _))
        | (go_at_call 58; exact calls_after (rat_yes _ _))))
      refine wpQuiet_nil ?_
      rintro _ ⟨y, rfl⟩
      go_wp2_with fail
      go_ret
      exact ⟨retI (by rw [HQ.out]), HB.out.trans (y.bel.mono HB.out.size)⟩
    · have I2 := Lib.hid fun w => rin_no b 0 1 h2 w
      have HQ : Hid (atL f a 0 m (2 + x) b 2 = -1) := Lib.hid (by unfold atL; rw [if_pos (by omega)])
      go_enter Try.func47, Try.ntmps47
      go_wp2_with fail
      rw [← HV.out]
      refine wp_region_after (by kernel_rfl) (by kernel_rfl) ?_
      repeat (go_big_quiet_step (first
        | (go_at_call 27; with_reducible exact calls_after (I1.out _))
        | (go_at_call 27; with_reducible exact calls_after (I2.out _))
        | (go_at_call 58; exact calls_after (rat_no _ _))))
      refine wpQuiet_nil ?_
      rintro _ ⟨y, rfl⟩
      go_wp2_with fail
      go_ret
      exact ⟨retI HQ.out.symm, HB.out.trans (y.bel.mono HB.out.size)⟩
  · have I1 := Lib.hid fun w => rin_no a 0 (m - 1) h1 w
    have HQ : Hid (atL f a 0 m (2 + x) b 2 = -1) := Lib.hid (by unfold atL; rw [if_pos (by omega)])
    go_enter Try.func47, Try.ntmps47
    go_wp2_with fail
    rw [← HV.out]
    refine wp_region_after (by kernel_rfl) (by kernel_rfl) ?_
    repeat (go_big_quiet_step (first
      | (go_at_call 27; with_reducible exact calls_after (I1.out _))
      | (go_at_call 58; exact calls_after (rat_no _ _))))
    refine wpQuiet_nil ?_
    rintro _ ⟨y, rfl⟩
    go_wp2_with fail
    go_ret
    exact ⟨retI HQ.out.symm, HB.out.trans (y.bel.mono HB.out.size)⟩

set_option maxHeartbeats 2000000 in
theorem rTop (X : Array Value) (f m a x : Int) (hf21 : X[21]? = some (.int .i64 f)) (hf : 0 ≤ f ∧ f ≤ 50000) (hm7 : X[7]? = some (.int .i64 m)) (hm : 0 ≤ m ∧ m ≤ 1000) (hx3 : X[3]? = some (.int .i64 x)) (hx : 0 ≤ x ∧ x ≤ 100) (w : World) :
    Calls Try.prog 49 #[.agg X, .int .i64 a] w fun e w' => e = .returned (.int .i64 (atL f a 0 m (1 + x) 0 1)) ∧ Below w.heap.size w w' := by
  have hbk : Blk (w.alloc (Obj.cells X 26)) w.heap.size 26 X := Blk.made w _ _
  have hb : Below w.heap.size w (w.alloc (Obj.cells X 26)) := (Below.refl _ w).alloc (Nat.le_refl _) _
  obtain ⟨V, hV⟩ : ∃ V, V = w.alloc (Obj.cells X 26) := ⟨_, rfl⟩
  rw [← hV] at hbk hb
  have hlt := hbk.lt
  have yf : ∀ y : After V, y.w.cell? ⟨w.heap.size, 21, none⟩ = some (.int .i64 f) := fun y => (y.cell hlt).trans ((hbk.cell 21).trans hf21)
  have ym : ∀ y : After V, y.w.cell? ⟨w.heap.size, 7, none⟩ = some (.int .i64 m) := fun y => (y.cell hlt).trans ((hbk.cell 7).trans hm7)
  have yx : ∀ y : After V, y.w.cell? ⟨w.heap.size, 3, none⟩ = some (.int .i64 x) := fun y => (y.cell hlt).trans ((hbk.cell 3).trans hx3)
  have e1 : IntKind.i64.wrap (m - 1) = m - 1 := by rw [IntKind.wrap_i64]; omega
  have e2 : IntKind.i64.wrap (x + 1) = x + 1 := by rw [IntKind.wrap_i64]; omega
  have HV := Lib.hid hV
  have HB := Lib.hid hb
  clear hbk hb hV hf21 hx3 hm7
  by_cases h1 : 0 ≤ a ∧ a ≤ (m - 1)
  · have I1 := Lib.hid fun w => rin_yes a 0 (m - 1) h1 w
    obtain ⟨P, hP⟩ : ∃ P, (x + 1) * a = P := ⟨_, rfl⟩
    have hp : 0 ≤ P ∧ P ≤ 102000 := by
      rw [← hP]
      exact ⟨Int.mul_nonneg (by omega) (by omega), by have := Int.mul_le_mul (show x + 1 ≤ 102 by omega) (show a ≤ 1000 by omega) (by omega) (by omega); omega⟩
    have e5 : IntKind.i64.wrap ((x + 1) * a) = P := by rw [hP, IntKind.wrap_i64]; omega
    have HQ : Hid (atL f a 0 m (1 + x) 0 1 = f + P) := Lib.hid (by unfold atL; rw [if_neg (by omega), Int.sub_zero, Int.mul_comm a, Int.add_comm 1 x, hP] <;> omega)
    clear hP
    have e6 : IntKind.i64.wrap (f + P) = f + P := by rw [IntKind.wrap_i64]; omega
    go_enter Try.func49, Try.ntmps49
    go_wp2_with fail
    rw [← HV.out]
    refine wp_region_after (by kernel_rfl) (by kernel_rfl) ?_
    repeat (go_big_quiet_step (first
      | (go_at_call 27; with_reducible exact calls_after (I1.out _))
      | (go_at_call 58; exact calls_after (rat_yes _ _))))
    refine wpQuiet_nil ?_
    rintro _ ⟨y, rfl⟩
    go_wp2_with fail
    go_ret
    exact ⟨retI (by rw [HQ.out]), HB.out.trans (y.bel.mono HB.out.size)⟩
  · have I1 := Lib.hid fun w => rin_no a 0 (m - 1) h1 w
    have HQ : Hid (atL f a 0 m (1 + x) 0 1 = -1) := Lib.hid (by unfold atL; rw [if_pos (by omega)])
    go_enter Try.func49, Try.ntmps49
    go_wp2_with fail
    rw [← HV.out]
    refine wp_region_after (by kernel_rfl) (by kernel_rfl) ?_
    repeat (go_big_quiet_step (first
      | (go_at_call 27; with_reducible exact calls_after (I1.out _))
      | (go_at_call 58; exact calls_after (rat_no _ _))))
    refine wpQuiet_nil ?_
    rintro _ ⟨y, rfl⟩
    go_wp2_with fail
    go_ret
    exact ⟨retI HQ.out.symm, HB.out.trans (y.bel.mono HB.out.size)⟩

end Go.Proofs.Ytbaeckehchpfaaa
