/-
  LAYOUT: the other places.
-/
import Derived.Test.YtbaeckehchpfaaaRows
import Derived.ProofKit
import Derived.Test.YtbaeckehchpfaaaLayL
namespace Go.Proofs.Ytbaeckehchpfaaa
open Go.ChangeShapes Go.WideShapes Go.ChangeAt Go.RowKit

theorem pAlive (X : Array Value) (f m a : Int) (hf13 : X[13]? = some (.int .i64 f)) (hf : 0 ≤ f ∧ f ≤ 50000) (hm0 : X[0]? = some (.int .i64 m)) (hm : 0 ≤ m ∧ m ≤ 1000) (w : World) :
    Calls Try.prog 29 #[.agg X, .int .i64 a] w fun e w' => e = .returned (.int .i64 (atL f a 0 m 1 0 1)) ∧ Below w.heap.size w w' := by
  have hbk : Blk (w.alloc (Obj.cells X 26)) w.heap.size 26 X := Blk.made w _ _
  have hb : Below w.heap.size w (w.alloc (Obj.cells X 26)) := (Below.refl _ w).alloc (Nat.le_refl _) _
  obtain ⟨V, hV⟩ : ∃ V, V = w.alloc (Obj.cells X 26) := ⟨_, rfl⟩
  rw [← hV] at hbk hb
  have hlt := hbk.lt
  have yf : ∀ y : After V, y.w.cell? ⟨w.heap.size, 13, none⟩ = some (.int .i64 f) := fun y => (y.cell hlt).trans ((hbk.cell 13).trans hf13)
  have ym : ∀ y : After V, y.w.cell? ⟨w.heap.size, 0, none⟩ = some (.int .i64 m) := fun y => (y.cell hlt).trans ((hbk.cell 0).trans hm0)
  have HA := Lib.hid fun w => at_any f a 0 m 1 0 1 (by omega) (by omega) (by omega) (by omega) (by omega) w
  have HV := Lib.hid hV
  have HB := Lib.hid hb
  clear hbk hb hV hm0 hf13
  go_enter Try.func29, Try.ntmps29
  go_wp2_with fail
  rw [← HV.out]
  refine wp_region_after (by kernel_rfl) (by kernel_rfl) ?_
  repeat (go_big_quiet_step (first
    | (go_at_call 55; exact calls_after (from0_any _ _ _))
    | (go_at_call 57; exact calls_after (alone_any _))
    | (go_at_call 54; exact calls_after (HA.out _))))
  refine wpQuiet_nil ?_
  rintro _ ⟨y, rfl⟩
  go_wp2_with fail
  go_ret
  exact ⟨rfl, HB.out.trans (y.bel.mono HB.out.size)⟩

theorem pOwner (X : Array Value) (f m a : Int) (hf14 : X[14]? = some (.int .i64 f)) (hf : 0 ≤ f ∧ f ≤ 50000) (hm0 : X[0]? = some (.int .i64 m)) (hm : 0 ≤ m ∧ m ≤ 1000) (w : World) :
    Calls Try.prog 30 #[.agg X, .int .i64 a] w fun e w' => e = .returned (.int .i64 (atL f a 0 m 1 0 1)) ∧ Below w.heap.size w w' := by
  have hbk : Blk (w.alloc (Obj.cells X 26)) w.heap.size 26 X := Blk.made w _ _
  have hb : Below w.heap.size w (w.alloc (Obj.cells X 26)) := (Below.refl _ w).alloc (Nat.le_refl _) _
  obtain ⟨V, hV⟩ : ∃ V, V = w.alloc (Obj.cells X 26) := ⟨_, rfl⟩
  rw [← hV] at hbk hb
  have hlt := hbk.lt
  have yf : ∀ y : After V, y.w.cell? ⟨w.heap.size, 14, none⟩ = some (.int .i64 f) := fun y => (y.cell hlt).trans ((hbk.cell 14).trans hf14)
  have ym : ∀ y : After V, y.w.cell? ⟨w.heap.size, 0, none⟩ = some (.int .i64 m) := fun y => (y.cell hlt).trans ((hbk.cell 0).trans hm0)
  have HA := Lib.hid fun w => at_any f a 0 m 1 0 1 (by omega) (by omega) (by omega) (by omega) (by omega) w
  have HV := Lib.hid hV
  have HB := Lib.hid hb
  clear hbk hb hV hf14 hm0
  go_enter Try.func30, Try.ntmps30
  go_wp2_with fail
  rw [← HV.out]
  refine wp_region_after (by kernel_rfl) (by kernel_rfl) ?_
  repeat (go_big_quiet_step (first
    | (go_at_call 55; exact calls_after (from0_any _ _ _))
    | (go_at_call 57; exact calls_after (alone_any _))
    | (go_at_call 54; exact calls_after (HA.out _))))
  refine wpQuiet_nil ?_
  rintro _ ⟨y, rfl⟩
  go_wp2_with fail
  go_ret
  exact ⟨rfl, HB.out.trans (y.bel.mono HB.out.size)⟩

theorem pResv (X : Array Value) (f m a b : Int) (hf15 : X[15]? = some (.int .i64 f)) (hf : 0 ≤ f ∧ f ≤ 50000) (hm0 : X[0]? = some (.int .i64 m)) (hm : 0 ≤ m ∧ m ≤ 1000) (w : World) :
    Calls Try.prog 31 #[.agg X, .int .i64 a, .int .i64 b] w fun e w' => e = .returned (.int .i64 (atL f a 0 m 3 b 3)) ∧ Below w.heap.size w w' := by
  have hbk : Blk (w.alloc (Obj.cells X 26)) w.heap.size 26 X := Blk.made w _ _
  have hb : Below w.heap.size w (w.alloc (Obj.cells X 26)) := (Below.refl _ w).alloc (Nat.le_refl _) _
  obtain ⟨V, hV⟩ : ∃ V, V = w.alloc (Obj.cells X 26) := ⟨_, rfl⟩
  rw [← hV] at hbk hb
  have hlt := hbk.lt
  have yf : ∀ y : After V, y.w.cell? ⟨w.heap.size, 15, none⟩ = some (.int .i64 f) := fun y => (y.cell hlt).trans ((hbk.cell 15).trans hf15)
  have ym : ∀ y : After V, y.w.cell? ⟨w.heap.size, 0, none⟩ = some (.int .i64 m) := fun y => (y.cell hlt).trans ((hbk.cell 0).trans hm0)
  have HA := Lib.hid fun w => at_any f a 0 m 3 b 3 (by omega) (by omega) (by omega) (by omega) (by omega) w
  have HV := Lib.hid hV
  have HB := Lib.hid hb
  clear hbk hb hV hf15 hm0
  go_enter Try.func31, Try.ntmps31
  go_wp2_with fail
  rw [← HV.out]
  refine wp_region_after (by kernel_rfl) (by kernel_rfl) ?_
  repeat (go_big_quiet_step (first
    | (go_at_call 55; exact calls_after (from0_any _ _ _))
    | (go_at_call 54; exact calls_after (HA.out _))))
  refine wpQuiet_nil ?_
  rintro _ ⟨y, rfl⟩
  go_wp2_with fail
  go_ret
  exact ⟨rfl, HB.out.trans (y.bel.mono HB.out.size)⟩

theorem pDeque (X : Array Value) (f m a b : Int) (hf16 : X[16]? = some (.int .i64 f)) (hf : 0 ≤ f ∧ f ≤ 50000) (hm0 : X[0]? = some (.int .i64 m)) (hm : 0 ≤ m ∧ m ≤ 1000) (w : World) :
    Calls Try.prog 32 #[.agg X, .int .i64 a, .int .i64 b] w fun e w' => e = .returned (.int .i64 (atL f a 0 m 3 b 3)) ∧ Below w.heap.size w w' := by
  have hbk : Blk (w.alloc (Obj.cells X 26)) w.heap.size 26 X := Blk.made w _ _
  have hb : Below w.heap.size w (w.alloc (Obj.cells X 26)) := (Below.refl _ w).alloc (Nat.le_refl _) _
  obtain ⟨V, hV⟩ : ∃ V, V = w.alloc (Obj.cells X 26) := ⟨_, rfl⟩
  rw [← hV] at hbk hb
  have hlt := hbk.lt
  have yf : ∀ y : After V, y.w.cell? ⟨w.heap.size, 16, none⟩ = some (.int .i64 f) := fun y => (y.cell hlt).trans ((hbk.cell 16).trans hf16)
  have ym : ∀ y : After V, y.w.cell? ⟨w.heap.size, 0, none⟩ = some (.int .i64 m) := fun y => (y.cell hlt).trans ((hbk.cell 0).trans hm0)
  have HA := Lib.hid fun w => at_any f a 0 m 3 b 3 (by omega) (by omega) (by omega) (by omega) (by omega) w
  have HV := Lib.hid hV
  have HB := Lib.hid hb
  clear hbk hb hV hf16 hm0
  go_enter Try.func32, Try.ntmps32
  go_wp2_with fail
  rw [← HV.out]
  refine wp_region_after (by kernel_rfl) (by kernel_rfl) ?_
  repeat (go_big_quiet_step (first
    | (go_at_call 55; exact calls_after (from0_any _ _ _))
    | (go_at_call 54; exact calls_after (HA.out _))))
  refine wpQuiet_nil ?_
  rintro _ ⟨y, rfl⟩
  go_wp2_with fail
  go_ret
  exact ⟨rfl, HB.out.trans (y.bel.mono HB.out.size)⟩

theorem pCell (X : Array Value) (f m a : Int) (hf19 : X[19]? = some (.int .i64 f)) (hf : 0 ≤ f ∧ f ≤ 50000) (hm5 : X[5]? = some (.int .i64 m)) (hm : 0 ≤ m ∧ m ≤ 1000) (w : World) :
    Calls Try.prog 33 #[.agg X, .int .i64 a] w fun e w' => e = .returned (.int .i64 (atL f a 0 m 1 0 1)) ∧ Below w.heap.size w w' := by
  have hbk : Blk (w.alloc (Obj.cells X 26)) w.heap.size 26 X := Blk.made w _ _
  have hb : Below w.heap.size w (w.alloc (Obj.cells X 26)) := (Below.refl _ w).alloc (Nat.le_refl _) _
  obtain ⟨V, hV⟩ : ∃ V, V = w.alloc (Obj.cells X 26) := ⟨_, rfl⟩
  rw [← hV] at hbk hb
  have hlt := hbk.lt
  have yf : ∀ y : After V, y.w.cell? ⟨w.heap.size, 19, none⟩ = some (.int .i64 f) := fun y => (y.cell hlt).trans ((hbk.cell 19).trans hf19)
  have ym : ∀ y : After V, y.w.cell? ⟨w.heap.size, 5, none⟩ = some (.int .i64 m) := fun y => (y.cell hlt).trans ((hbk.cell 5).trans hm5)
  have HA := Lib.hid fun w => at_any f a 0 m 1 0 1 (by omega) (by omega) (by omega) (by omega) (by omega) w
  have HV := Lib.hid hV
  have HB := Lib.hid hb
  clear hbk hb hV hf19 hm5
  go_enter Try.func33, Try.ntmps33
  go_wp2_with fail
  rw [← HV.out]
  refine wp_region_after (by kernel_rfl) (by kernel_rfl) ?_
  repeat (go_big_quiet_step (first
    | (go_at_call 55; exact calls_after (from0_any _ _ _))
    | (go_at_call 57; exact calls_after (alone_any _))
    | (go_at_call 54; exact calls_after (HA.out _))))
  refine wpQuiet_nil ?_
  rintro _ ⟨y, rfl⟩
  go_wp2_with fail
  go_ret
  exact ⟨rfl, HB.out.trans (y.bel.mono HB.out.size)⟩

theorem pMap (X : Array Value) (f m a b x : Int) (hf20 : X[20]? = some (.int .i64 f)) (hf : 0 ≤ f ∧ f ≤ 50000) (hm6 : X[6]? = some (.int .i64 m)) (hm : 0 ≤ m ∧ m ≤ 1000) (hx2 : X[2]? = some (.int .i64 x)) (hx : 0 ≤ x ∧ x ≤ 100) (w : World) :
    Calls Try.prog 34 #[.agg X, .int .i64 a, .int .i64 b] w fun e w' => e = .returned (.int .i64 (atL f a 0 m (2 + x) b 2)) ∧ Below w.heap.size w w' := by
  have hbk : Blk (w.alloc (Obj.cells X 26)) w.heap.size 26 X := Blk.made w _ _
  have hb : Below w.heap.size w (w.alloc (Obj.cells X 26)) := (Below.refl _ w).alloc (Nat.le_refl _) _
  obtain ⟨V, hV⟩ : ∃ V, V = w.alloc (Obj.cells X 26) := ⟨_, rfl⟩
  rw [← hV] at hbk hb
  have hlt := hbk.lt
  have yf : ∀ y : After V, y.w.cell? ⟨w.heap.size, 20, none⟩ = some (.int .i64 f) := fun y => (y.cell hlt).trans ((hbk.cell 20).trans hf20)
  have ym : ∀ y : After V, y.w.cell? ⟨w.heap.size, 6, none⟩ = some (.int .i64 m) := fun y => (y.cell hlt).trans ((hbk.cell 6).trans hm6)
  have yx : ∀ y : After V, y.w.cell? ⟨w.heap.size, 2, none⟩ = some (.int .i64 x) := fun y => (y.cell hlt).trans ((hbk.cell 2).trans hx2)
  have e1 : IntKind.i64.wrap (2 + x) = 2 + x := by rw [IntKind.wrap_i64]; omega
  have HA := Lib.hid fun w => at_any f a 0 m (2 + x) b 2 (by omega) (by omega) (by omega) (by omega) (by omega) w
  have HV := Lib.hid hV
  have HB := Lib.hid hb
  clear hbk hb hV hf20 hm6 hx2
  go_enter Try.func34, Try.ntmps34
  go_wp2_with fail
  rw [← HV.out]
  refine wp_region_after (by kernel_rfl) (by kernel_rfl) ?_
  repeat (go_big_quiet_step (first
    | (go_at_call 55; exact calls_after (from0_any _ _ _))
    | (go_at_call 54; exact calls_after (HA.out _))))
  refine wpQuiet_nil ?_
  rintro _ ⟨y, rfl⟩
  go_wp2_with fail
  go_ret
  exact ⟨rfl, HB.out.trans (y.bel.mono HB.out.size)⟩

theorem pBucket (X : Array Value) (f m a b x : Int) (hf20 : X[20]? = some (.int .i64 f)) (hf : 0 ≤ f ∧ f ≤ 50000) (hm6 : X[6]? = some (.int .i64 m)) (hm : 0 ≤ m ∧ m ≤ 1000) (hx2 : X[2]? = some (.int .i64 x)) (hx : 0 ≤ x ∧ x ≤ 100) (w : World) :
    Calls Try.prog 35 #[.agg X, .int .i64 a, .int .i64 b] w fun e w' => e = .returned (.int .i64 (atL (f + 2) a 0 m (2 + x) b x)) ∧ Below w.heap.size w w' := by
  have hbk : Blk (w.alloc (Obj.cells X 26)) w.heap.size 26 X := Blk.made w _ _
  have hb : Below w.heap.size w (w.alloc (Obj.cells X 26)) := (Below.refl _ w).alloc (Nat.le_refl _) _
  obtain ⟨V, hV⟩ : ∃ V, V = w.alloc (Obj.cells X 26) := ⟨_, rfl⟩
  rw [← hV] at hbk hb
  have hlt := hbk.lt
  have yf : ∀ y : After V, y.w.cell? ⟨w.heap.size, 20, none⟩ = some (.int .i64 f) := fun y => (y.cell hlt).trans ((hbk.cell 20).trans hf20)
  have ym : ∀ y : After V, y.w.cell? ⟨w.heap.size, 6, none⟩ = some (.int .i64 m) := fun y => (y.cell hlt).trans ((hbk.cell 6).trans hm6)
  have yx : ∀ y : After V, y.w.cell? ⟨w.heap.size, 2, none⟩ = some (.int .i64 x) := fun y => (y.cell hlt).trans ((hbk.cell 2).trans hx2)
  have e1 : IntKind.i64.wrap (2 + x) = 2 + x := by rw [IntKind.wrap_i64]; omega
  have e2 : IntKind.i64.wrap (f + 2) = f + 2 := by rw [IntKind.wrap_i64]; omega
  have HA := Lib.hid fun w => at_any (f + 2) a 0 m (2 + x) b x (by omega) (by omega) (by omega) (by omega) (by omega) w
  have HV := Lib.hid hV
  have HB := Lib.hid hb
  clear hbk hb hV hf20 hm6 hx2
  go_enter Try.func35, Try.ntmps35
  go_wp2_with fail
  rw [← HV.out]
  refine wp_region_after (by kernel_rfl) (by kernel_rfl) ?_
  repeat (go_big_quiet_step (first
    | (go_at_call 55; exact calls_after (from0_any _ _ _))
    | (go_at_call 54; exact calls_after (HA.out _))))
  refine wpQuiet_nil ?_
  rintro _ ⟨y, rfl⟩
  go_wp2_with fail
  go_ret
  exact ⟨rfl, HB.out.trans (y.bel.mono HB.out.size)⟩

theorem pTop (X : Array Value) (f m a x : Int) (hf21 : X[21]? = some (.int .i64 f)) (hf : 0 ≤ f ∧ f ≤ 50000) (hm7 : X[7]? = some (.int .i64 m)) (hm : 0 ≤ m ∧ m ≤ 1000) (hx3 : X[3]? = some (.int .i64 x)) (hx : 0 ≤ x ∧ x ≤ 100) (w : World) :
    Calls Try.prog 36 #[.agg X, .int .i64 a] w fun e w' => e = .returned (.int .i64 (atL f a 0 m (1 + x) 0 1)) ∧ Below w.heap.size w w' := by
  have hbk : Blk (w.alloc (Obj.cells X 26)) w.heap.size 26 X := Blk.made w _ _
  have hb : Below w.heap.size w (w.alloc (Obj.cells X 26)) := (Below.refl _ w).alloc (Nat.le_refl _) _
  obtain ⟨V, hV⟩ : ∃ V, V = w.alloc (Obj.cells X 26) := ⟨_, rfl⟩
  rw [← hV] at hbk hb
  have hlt := hbk.lt
  have yf : ∀ y : After V, y.w.cell? ⟨w.heap.size, 21, none⟩ = some (.int .i64 f) := fun y => (y.cell hlt).trans ((hbk.cell 21).trans hf21)
  have ym : ∀ y : After V, y.w.cell? ⟨w.heap.size, 7, none⟩ = some (.int .i64 m) := fun y => (y.cell hlt).trans ((hbk.cell 7).trans hm7)
  have yx : ∀ y : After V, y.w.cell? ⟨w.heap.size, 3, none⟩ = some (.int .i64 x) := fun y => (y.cell hlt).trans ((hbk.cell 3).trans hx3)
  have e1 : IntKind.i64.wrap (1 + x) = 1 + x := by rw [IntKind.wrap_i64]; omega
  have HA := Lib.hid fun w => at_any f a 0 m (1 + x) 0 1 (by omega) (by omega) (by omega) (by omega) (by omega) w
  have HV := Lib.hid hV
  have HB := Lib.hid hb
  clear hbk hb hV hx3 hf21 hm7
  go_enter Try.func36, Try.ntmps36
  go_wp2_with fail
  rw [← HV.out]
  refine wp_region_after (by kernel_rfl) (by kernel_rfl) ?_
  repeat (go_big_quiet_step (first
    | (go_at_call 55; exact calls_after (from0_any _ _ _))
    | (go_at_call 57; exact calls_after (alone_any _))
    | (go_at_call 54; exact calls_after (HA.out _))))
  refine wpQuiet_nil ?_
  rintro _ ⟨y, rfl⟩
  go_wp2_with fail
  go_ret
  exact ⟨rfl, HB.out.trans (y.bel.mono HB.out.size)⟩

theorem pSlot (X : Array Value) (f m a b x : Int) (hf21 : X[21]? = some (.int .i64 f)) (hf : 0 ≤ f ∧ f ≤ 50000) (hm7 : X[7]? = some (.int .i64 m)) (hm : 0 ≤ m ∧ m ≤ 1000) (hx3 : X[3]? = some (.int .i64 x)) (hx : 0 ≤ x ∧ x ≤ 100) (w : World) :
    Calls Try.prog 37 #[.agg X, .int .i64 a, .int .i64 b] w fun e w' => e = .returned (.int .i64 (atL (f + 1) a 0 m (1 + x) b x)) ∧ Below w.heap.size w w' := by
  have hbk : Blk (w.alloc (Obj.cells X 26)) w.heap.size 26 X := Blk.made w _ _
  have hb : Below w.heap.size w (w.alloc (Obj.cells X 26)) := (Below.refl _ w).alloc (Nat.le_refl _) _
  obtain ⟨V, hV⟩ : ∃ V, V = w.alloc (Obj.cells X 26) := ⟨_, rfl⟩
  rw [← hV] at hbk hb
  have hlt := hbk.lt
  have yf : ∀ y : After V, y.w.cell? ⟨w.heap.size, 21, none⟩ = some (.int .i64 f) := fun y => (y.cell hlt).trans ((hbk.cell 21).trans hf21)
  have ym : ∀ y : After V, y.w.cell? ⟨w.heap.size, 7, none⟩ = some (.int .i64 m) := fun y => (y.cell hlt).trans ((hbk.cell 7).trans hm7)
  have yx : ∀ y : After V, y.w.cell? ⟨w.heap.size, 3, none⟩ = some (.int .i64 x) := fun y => (y.cell hlt).trans ((hbk.cell 3).trans hx3)
  have e1 : IntKind.i64.wrap (1 + x) = 1 + x := by rw [IntKind.wrap_i64]; omega
  have e2 : IntKind.i64.wrap (f + 1) = f + 1 := by rw [IntKind.wrap_i64]; omega
  have HA := Lib.hid fun w => at_any (f + 1) a 0 m (1 + x) b x (by omega) (by omega) (by omega) (by omega) (by omega) w
  have HV := Lib.hid hV
  have HB := Lib.hid hb
  clear hbk hb hV hx3 hf21 hm7
  go_enter Try.func37, Try.ntmps37
  go_wp2_with fail
  rw [← HV.out]
  refine wp_region_after (by kernel_rfl) (by kernel_rfl) ?_
  repeat (go_big_quiet_step (first
    | (go_at_call 55; exact calls_after (from0_any _ _ _))
    | (go_at_call 54; exact calls_after (HA.out _))))
  refine wpQuiet_nil ?_
  rintro _ ⟨y, rfl⟩
  go_wp2_with fail
  go_ret
  exact ⟨rfl, HB.out.trans (y.bel.mono HB.out.size)⟩

theorem pHead (X : Array Value) (f m a : Int) (hf22 : X[22]? = some (.int .i64 f)) (hf : 0 ≤ f ∧ f ≤ 50000) (hm8 : X[8]? = some (.int .i64 m)) (hm : 0 ≤ m ∧ m ≤ 1000) (w : World) :
    Calls Try.prog 38 #[.agg X, .int .i64 a] w fun e w' => e = .returned (.int .i64 (atL f a 0 m 2 0 1)) ∧ Below w.heap.size w w' := by
  have hbk : Blk (w.alloc (Obj.cells X 26)) w.heap.size 26 X := Blk.made w _ _
  have hb : Below w.heap.size w (w.alloc (Obj.cells X 26)) := (Below.refl _ w).alloc (Nat.le_refl _) _
  obtain ⟨V, hV⟩ : ∃ V, V = w.alloc (Obj.cells X 26) := ⟨_, rfl⟩
  rw [← hV] at hbk hb
  have hlt := hbk.lt
  have yf : ∀ y : After V, y.w.cell? ⟨w.heap.size, 22, none⟩ = some (.int .i64 f) := fun y => (y.cell hlt).trans ((hbk.cell 22).trans hf22)
  have ym : ∀ y : After V, y.w.cell? ⟨w.heap.size, 8, none⟩ = some (.int .i64 m) := fun y => (y.cell hlt).trans ((hbk.cell 8).trans hm8)
  have HA := Lib.hid fun w => at_any f a 0 m 2 0 1 (by omega) (by omega) (by omega) (by omega) (by omega) w
  have HV := Lib.hid hV
  have HB := Lib.hid hb
  clear hbk hb hV hm8 hf22
  go_enter Try.func38, Try.ntmps38
  go_wp2_with fail
  rw [← HV.out]
  refine wp_region_after (by kernel_rfl) (by kernel_rfl) ?_
  repeat (go_big_quiet_step (first
    | (go_at_call 55; exact calls_after (from0_any _ _ _))
    | (go_at_call 57; exact calls_after (alone_any _))
    | (go_at_call 54; exact calls_after (HA.out _))))
  refine wpQuiet_nil ?_
  rintro _ ⟨y, rfl⟩
  go_wp2_with fail
  go_ret
  exact ⟨rfl, HB.out.trans (y.bel.mono HB.out.size)⟩

theorem pTail (X : Array Value) (f m a : Int) (hf22 : X[22]? = some (.int .i64 f)) (hf : 0 ≤ f ∧ f ≤ 50000) (hm8 : X[8]? = some (.int .i64 m)) (hm : 0 ≤ m ∧ m ≤ 1000) (w : World) :
    Calls Try.prog 39 #[.agg X, .int .i64 a] w fun e w' => e = .returned (.int .i64 (atL (f + 1) a 0 m 2 0 1)) ∧ Below w.heap.size w w' := by
  have hbk : Blk (w.alloc (Obj.cells X 26)) w.heap.size 26 X := Blk.made w _ _
  have hb : Below w.heap.size w (w.alloc (Obj.cells X 26)) := (Below.refl _ w).alloc (Nat.le_refl _) _
  obtain ⟨V, hV⟩ : ∃ V, V = w.alloc (Obj.cells X 26) := ⟨_, rfl⟩
  rw [← hV] at hbk hb
  have hlt := hbk.lt
  have yf : ∀ y : After V, y.w.cell? ⟨w.heap.size, 22, none⟩ = some (.int .i64 f) := fun y => (y.cell hlt).trans ((hbk.cell 22).trans hf22)
  have ym : ∀ y : After V, y.w.cell? ⟨w.heap.size, 8, none⟩ = some (.int .i64 m) := fun y => (y.cell hlt).trans ((hbk.cell 8).trans hm8)
  have e2 : IntKind.i64.wrap (f + 1) = f + 1 := by rw [IntKind.wrap_i64]; omega
  have HA := Lib.hid fun w => at_any (f + 1) a 0 m 2 0 1 (by omega) (by omega) (by omega) (by omega) (by omega) w
  have HV := Lib.hid hV
  have HB := Lib.hid hb
  clear hbk hb hV hm8 hf22
  go_enter Try.func39, Try.ntmps39
  go_wp2_with fail
  rw [← HV.out]
  refine wp_region_after (by kernel_rfl) (by kernel_rfl) ?_
  repeat (go_big_quiet_step (first
    | (go_at_call 55; exact calls_after (from0_any _ _ _))
    | (go_at_call 57; exact calls_after (alone_any _))
    | (go_at_call 54; exact calls_after (HA.out _))))
  refine wpQuiet_nil ?_
  rintro _ ⟨y, rfl⟩
  go_wp2_with fail
  go_ret
  exact ⟨rfl, HB.out.trans (y.bel.mono HB.out.size)⟩

end Go.Proofs.Ytbaeckehchpfaaa
