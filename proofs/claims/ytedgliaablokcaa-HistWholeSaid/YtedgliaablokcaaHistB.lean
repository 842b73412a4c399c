/-
  HIST: what may be.
-/
import Derived.Test.YtedgliaablokcaaRows
import Derived.ProofKit
import Derived.Test.YtedgliaablokcaaHistA
namespace Go.Proofs.Ytedgliaablokcaa
open Go.ChangeShapes Go.WideShapes Go.ChangeAt Go.RowKit

set_option maxHeartbeats 1000000 in
theorem may_0 (who kind obj a b val first last point : Int) (is : Bool) (w : World) (h0 : who < 0) : Calls Try.prog 25 #[.agg #[.int .i64 who, .int .i64 kind, .int .i64 obj, .int .i64 a, .int .i64 b, .int .i64 val, .bool is, .int .i64 first, .int .i64 last, .int .i64 point]] w fun e w' => e = .returned (.bool false) ∧ Below w.heap.size w w' := by
  have t0 : decide (who < 0) = true := by simp; omega
  have f0 : decide (0 ≤ who) = false := by simp; omega
  go_enter Try.func25, Try.ntmps25
  go_wp2_with fail
  go_ret
  exact ⟨rfl, (Below.refl _ _).alloc (Nat.le_refl _) _⟩

set_option maxHeartbeats 1000000 in
theorem may_1 (who kind obj a b val first last point : Int) (is : Bool) (w : World) (h0 : 0 ≤ who) (h1 : 7 < who) : Calls Try.prog 25 #[.agg #[.int .i64 who, .int .i64 kind, .int .i64 obj, .int .i64 a, .int .i64 b, .int .i64 val, .bool is, .int .i64 first, .int .i64 last, .int .i64 point]] w fun e w' => e = .returned (.bool false) ∧ Below w.heap.size w w' := by
  have t0 : decide (0 ≤ who) = true := by simp; omega
  have f0 : decide (who < 0) = false := by simp; omega
  have t1 : decide (7 < who) = true := by simp; omega
  have f1 : decide (who ≤ 7) = false := by simp; omega
  have s1 : decide (who < 8) = false := by simp; omega
  go_enter Try.func25, Try.ntmps25
  go_wp2_with fail
  go_ret
  exact ⟨rfl, (Below.refl _ _).alloc (Nat.le_refl _) _⟩

set_option maxHeartbeats 1000000 in
theorem may_2 (who kind obj a b val first last point : Int) (is : Bool) (w : World) (h0 : 0 ≤ who) (h1 : who ≤ 7) (h2 : kind < 1) : Calls Try.prog 25 #[.agg #[.int .i64 who, .int .i64 kind, .int .i64 obj, .int .i64 a, .int .i64 b, .int .i64 val, .bool is, .int .i64 first, .int .i64 last, .int .i64 point]] w fun e w' => e = .returned (.bool false) ∧ Below w.heap.size w w' := by
  have t0 : decide (0 ≤ who) = true := by simp; omega
  have f0 : decide (who < 0) = false := by simp; omega
  have t1 : decide (who ≤ 7) = true := by simp; omega
  have f1 : decide (7 < who) = false := by simp; omega
  have s1 : decide (who < 8) = true := by simp; omega
  have t2 : decide (kind < 1) = true := by simp; omega
  have f2 : decide (1 ≤ kind) = false := by simp; omega
  go_enter Try.func25, Try.ntmps25
  go_wp2_with fail
  go_ret
  exact ⟨rfl, (Below.refl _ _).alloc (Nat.le_refl _) _⟩

set_option maxHeartbeats 1000000 in
theorem may_3 (who kind obj a b val first last point : Int) (is : Bool) (w : World) (h0 : 0 ≤ who) (h1 : who ≤ 7) (h2 : 1 ≤ kind) (h3 : 7 < kind) : Calls Try.prog 25 #[.agg #[.int .i64 who, .int .i64 kind, .int .i64 obj, .int .i64 a, .int .i64 b, .int .i64 val, .bool is, .int .i64 first, .int .i64 last, .int .i64 point]] w fun e w' => e = .returned (.bool false) ∧ Below w.heap.size w w' := by
  have t0 : decide (0 ≤ who) = true := by simp; omega
  have f0 : decide (who < 0) = false := by simp; omega
  have t1 : decide (who ≤ 7) = true := by simp; omega
  have f1 : decide (7 < who) = false := by simp; omega
  have s1 : decide (who < 8) = true := by simp; omega
  have t2 : decide (1 ≤ kind) = true := by simp; omega
  have f2 : decide (kind < 1) = false := by simp; omega
  have t3 : decide (7 < kind) = true := by simp; omega
  have f3 : decide (kind ≤ 7) = false := by simp; omega
  have s3 : decide (kind < 8) = false := by simp; omega
  go_enter Try.func25, Try.ntmps25
  go_wp2_with fail
  go_ret
  exact ⟨rfl, (Below.refl _ _).alloc (Nat.le_refl _) _⟩

set_option maxHeartbeats 1000000 in
theorem may_4 (who kind obj a b val first last point : Int) (is : Bool) (w : World) (h0 : 0 ≤ who) (h1 : who ≤ 7) (h2 : 1 ≤ kind) (h3 : kind ≤ 7) (h4 : obj < 0) : Calls Try.prog 25 #[.agg #[.int .i64 who, .int .i64 kind, .int .i64 obj, .int .i64 a, .int .i64 b, .int .i64 val, .bool is, .int .i64 first, .int .i64 last, .int .i64 point]] w fun e w' => e = .returned (.bool false) ∧ Below w.heap.size w w' := by
  have t0 : decide (0 ≤ who) = true := by simp; omega
  have f0 : decide (who < 0) = false := by simp; omega
  have t1 : decide (who ≤ 7) = true := by simp; omega
  have f1 : decide (7 < who) = false := by simp; omega
  have s1 : decide (who < 8) = true := by simp; omega
  have t2 : decide (1 ≤ kind) = true := by simp; omega
  have f2 : decide (kind < 1) = false := by simp; omega
  have t3 : decide (kind ≤ 7) = true := by simp; omega
  have f3 : decide (7 < kind) = false := by simp; omega
  have s3 : decide (kind < 8) = true := by simp; omega
  have t4 : decide (obj < 0) = true := by simp; omega
  have f4 : decide (0 ≤ obj) = false := by simp; omega
  go_enter Try.func25, Try.ntmps25
  go_wp2_with fail
  go_ret
  exact ⟨rfl, (Below.refl _ _).alloc (Nat.le_refl _) _⟩

set_option maxHeartbeats 1000000 in
theorem may_5 (who kind obj a b val first last point : Int) (is : Bool) (w : World) (h0 : 0 ≤ who) (h1 : who ≤ 7) (h2 : 1 ≤ kind) (h3 : kind ≤ 7) (h4 : 0 ≤ obj) (h5 : 7 < obj) : Calls Try.prog 25 #[.agg #[.int .i64 who, .int .i64 kind, .int .i64 obj, .int .i64 a, .int .i64 b, .int .i64 val, .bool is, .int .i64 first, .int .i64 last, .int .i64 point]] w fun e w' => e = .returned (.bool false) ∧ Below w.heap.size w w' := by
  have t0 : decide (0 ≤ who) = true := by simp; omega
  have f0 : decide (who < 0) = false := by simp; omega
  have t1 : decide (who ≤ 7) = true := by simp; omega
  have f1 : decide (7 < who) = false := by simp; omega
  have s1 : decide (who < 8) = true := by simp; omega
  have t2 : decide (1 ≤ kind) = true := by simp; omega
  have f2 : decide (kind < 1) = false := by simp; omega
  have t3 : decide (kind ≤ 7) = true := by simp; omega
  have f3 : decide (7 < kind) = false := by simp; omega
  have s3 : decide (kind < 8) = true := by simp; omega
  have t4 : decide (0 ≤ obj) = true := by simp; omega
  have f4 : decide (obj < 0) = false := by simp; omega
  have t5 : decide (7 < obj) = true := by simp; omega
  have f5 : decide (obj ≤ 7) = false := by simp; omega
  have s5 : decide (obj < 8) = false := by simp; omega
  go_enter Try.func25, Try.ntmps25
  go_wp2_with fail
  go_ret
  exact ⟨rfl, (Below.refl _ _).alloc (Nat.le_refl _) _⟩

set_option maxHeartbeats 1000000 in
theorem may_6 (who kind obj a b val first last point : Int) (is : Bool) (w : World) (h0 : 0 ≤ who) (h1 : who ≤ 7) (h2 : 1 ≤ kind) (h3 : kind ≤ 7) (h4 : 0 ≤ obj) (h5 : obj ≤ 7) (h6 : first < 0) : Calls Try.prog 25 #[.agg #[.int .i64 who, .int .i64 kind, .int .i64 obj, .int .i64 a, .int .i64 b, .int .i64 val, .bool is, .int .i64 first, .int .i64 last, .int .i64 point]] w fun e w' => e = .returned (.bool false) ∧ Below w.heap.size w w' := by
  have t0 : decide (0 ≤ who) = true := by simp; omega
  have f0 : decide (who < 0) = false := by simp; omega
  have t1 : decide (who ≤ 7) = true := by simp; omega
  have f1 : decide (7 < who) = false := by simp; omega
  have s1 : decide (who < 8) = true := by simp; omega
  have t2 : decide (1 ≤ kind) = true := by simp; omega
  have f2 : decide (kind < 1) = false := by simp; omega
  have t3 : decide (kind ≤ 7) = true := by simp; omega
  have f3 : decide (7 < kind) = false := by simp; omega
  have s3 : decide (kind < 8) = true := by simp; omega
  have t4 : decide (0 ≤ obj) = true := by simp; omega
  have f4 : decide (obj < 0) = false := by simp; omega
  have t5 : decide (obj ≤ 7) = true := by simp; omega
  have f5 : decide (7 < obj) = false := by simp; omega
  have s5 : decide (obj < 8) = true := by simp; omega
  have t6 : decide (first < 0) = true := by simp; omega
  have f6 : decide (0 ≤ first) = false := by simp; omega
  go_enter Try.func25, Try.ntmps25
  go_wp2_with fail
  go_ret
  exact ⟨rfl, (Below.refl _ _).alloc (Nat.le_refl _) _⟩

set_option maxHeartbeats 1000000 in
theorem may_7 (who kind obj a b val first last point : Int) (is : Bool) (w : World) (h0 : 0 ≤ who) (h1 : who ≤ 7) (h2 : 1 ≤ kind) (h3 : kind ≤ 7) (h4 : 0 ≤ obj) (h5 : obj ≤ 7) (h6 : 0 ≤ first) (h7 : last < first) : Calls Try.prog 25 #[.agg #[.int .i64 who, .int .i64 kind, .int .i64 obj, .int .i64 a, .int .i64 b, .int .i64 val, .bool is, .int .i64 first, .int .i64 last, .int .i64 point]] w fun e w' => e = .returned (.bool false) ∧ Below w.heap.size w w' := by
  have t0 : decide (0 ≤ who) = true := by simp; omega
  have f0 : decide (who < 0) = false := by simp; omega
  have t1 : decide (who ≤ 7) = true := by simp; omega
  have f1 : decide (7 < who) = false := by simp; omega
  have s1 : decide (who < 8) = true := by simp; omega
  have t2 : decide (1 ≤ kind) = true := by simp; omega
  have f2 : decide (kind < 1) = false := by simp; omega
  have t3 : decide (kind ≤ 7) = true := by simp; omega
  have f3 : decide (7 < kind) = false := by simp; omega
  have s3 : decide (kind < 8) = true := by simp; omega
  have t4 : decide (0 ≤ obj) = true := by simp; omega
  have f4 : decide (obj < 0) = false := by simp; omega
  have t5 : decide (obj ≤ 7) = true := by simp; omega
  have f5 : decide (7 < obj) = false := by simp; omega
  have s5 : decide (obj < 8) = true := by simp; omega
  have t6 : decide (0 ≤ first) = true := by simp; omega
  have f6 : decide (first < 0) = false := by simp; omega
  have t7 : decide (last < first) = true := by simp; omega
  have f7 : decide (first ≤ last) = false := by simp; omega
  go_enter Try.func25, Try.ntmps25
  go_wp2_with fail
  go_ret
  exact ⟨rfl, (Below.refl _ _).alloc (Nat.le_refl _) _⟩

set_option maxHeartbeats 1000000 in
theorem may_8 (who kind obj a b val first last point : Int) (is : Bool) (w : World) (h0 : 0 ≤ who) (h1 : who ≤ 7) (h2 : 1 ≤ kind) (h3 : kind ≤ 7) (h4 : 0 ≤ obj) (h5 : obj ≤ 7) (h6 : 0 ≤ first) (h7 : first ≤ last) (h8 : point = -1) : Calls Try.prog 25 #[.agg #[.int .i64 who, .int .i64 kind, .int .i64 obj, .int .i64 a, .int .i64 b, .int .i64 val, .bool is, .int .i64 first, .int .i64 last, .int .i64 point]] w fun e w' => e = .returned (.bool true) ∧ Below w.heap.size w w' := by
  have t0 : decide (0 ≤ who) = true := by simp; omega
  have f0 : decide (who < 0) = false := by simp; omega
  have t1 : decide (who ≤ 7) = true := by simp; omega
  have f1 : decide (7 < who) = false := by simp; omega
  have s1 : decide (who < 8) = true := by simp; omega
  have t2 : decide (1 ≤ kind) = true := by simp; omega
  have f2 : decide (kind < 1) = false := by simp; omega
  have t3 : decide (kind ≤ 7) = true := by simp; omega
  have f3 : decide (7 < kind) = false := by simp; omega
  have s3 : decide (kind < 8) = true := by simp; omega
  have t4 : decide (0 ≤ obj) = true := by simp; omega
  have f4 : decide (obj < 0) = false := by simp; omega
  have t5 : decide (obj ≤ 7) = true := by simp; omega
  have f5 : decide (7 < obj) = false := by simp; omega
  have s5 : decide (obj < 8) = true := by simp; omega
  have t6 : decide (0 ≤ first) = true := by simp; omega
  have f6 : decide (first < 0) = false := by simp; omega
  have t7 : decide (first ≤ last) = true := by simp; omega
  have f7 : decide (last < first) = false := by simp; omega
  have t8 : (point == -1) = true := by simp; omega
  subst h8
  go_enter Try.func25, Try.ntmps25
  go_wp2_with fail
  go_ret
  exact ⟨rfl, (Below.refl _ _).alloc (Nat.le_refl _) _⟩

set_option maxHeartbeats 1000000 in
theorem may_9 (who kind obj a b val first last point : Int) (is : Bool) (w : World) (h0 : 0 ≤ who) (h1 : who ≤ 7) (h2 : 1 ≤ kind) (h3 : kind ≤ 7) (h4 : 0 ≤ obj) (h5 : obj ≤ 7) (h6 : 0 ≤ first) (h7 : first ≤ last) (h8 : point ≠ -1) (h9 : point < first) : Calls Try.prog 25 #[.agg #[.int .i64 who, .int .i64 kind, .int .i64 obj, .int .i64 a, .int .i64 b, .int .i64 val, .bool is, .int .i64 first, .int .i64 last, .int .i64 point]] w fun e w' => e = .returned (.bool false) ∧ Below w.heap.size w w' := by
  have t0 : decide (0 ≤ who) = true := by simp; omega
  have f0 : decide (who < 0) = false := by simp; omega
  have t1 : decide (who ≤ 7) = true := by simp; omega
  have f1 : decide (7 < who) = false := by simp; omega
  have s1 : decide (who < 8) = true := by simp; omega
  have t2 : decide (1 ≤ kind) = true := by simp; omega
  have f2 : decide (kind < 1) = false := by simp; omega
  have t3 : decide (kind ≤ 7) = true := by simp; omega
  have f3 : decide (7 < kind) = false := by simp; omega
  have s3 : decide (kind < 8) = true := by simp; omega
  have t4 : decide (0 ≤ obj) = true := by simp; omega
  have f4 : decide (obj < 0) = false := by simp; omega
  have t5 : decide (obj ≤ 7) = true := by simp; omega
  have f5 : decide (7 < obj) = false := by simp; omega
  have s5 : decide (obj < 8) = true := by simp; omega
  have t6 : decide (0 ≤ first) = true := by simp; omega
  have f6 : decide (first < 0) = false := by simp; omega
  have t7 : decide (first ≤ last) = true := by simp; omega
  have f7 : decide (last < first) = false := by simp; omega
  have t8 : (point == -1) = false := by simp; omega
  have t9 : decide (point < first) = true := by simp; omega
  have f9 : decide (first ≤ point) = false := by simp; omega
  go_enter Try.func25, Try.ntmps25
  go_wp2_with fail
  go_ret
  exact ⟨rfl, (Below.refl _ _).alloc (Nat.le_refl _) _⟩

set_option maxHeartbeats 1000000 in
theorem may_10 (who kind obj a b val first last point : Int) (is : Bool) (w : World) (h0 : 0 ≤ who) (h1 : who ≤ 7) (h2 : 1 ≤ kind) (h3 : kind ≤ 7) (h4 : 0 ≤ obj) (h5 : obj ≤ 7) (h6 : 0 ≤ first) (h7 : first ≤ last) (h8 : point ≠ -1) (h9 : first ≤ point) (h10 : last < point) : Calls Try.prog 25 #[.agg #[.int .i64 who, .int .i64 kind, .int .i64 obj, .int .i64 a, .int .i64 b, .int .i64 val, .bool is, .int .i64 first, .int .i64 last, .int .i64 point]] w fun e w' => e = .returned (.bool false) ∧ Below w.heap.size w w' := by
  have t0 : decide (0 ≤ who) = true := by simp; omega
  have f0 : decide (who < 0) = false := by simp; omega
  have t1 : decide (who ≤ 7) = true := by simp; omega
  have f1 : decide (7 < who) = false := by simp; omega
  have s1 : decide (who < 8) = true := by simp; omega
  have t2 : decide (1 ≤ kind) = true := by simp; omega
  have f2 : decide (kind < 1) = false := by simp; omega
  have t3 : decide (kind ≤ 7) = true := by simp; omega
  have f3 : decide (7 < kind) = false := by simp; omega
  have s3 : decide (kind < 8) = true := by simp; omega
  have t4 : decide (0 ≤ obj) = true := by simp; omega
  have f4 : decide (obj < 0) = false := by simp; omega
  have t5 : decide (obj ≤ 7) = true := by simp; omega
  have f5 : decide (7 < obj) = false := by simp; omega
  have s5 : decide (obj < 8) = true := by simp; omega
  have t6 : decide (0 ≤ first) = true := by simp; omega
  have f6 : decide (first < 0) = false := by simp; omega
  have t7 : decide (first ≤ last) = true := by simp; omega
  have f7 : decide (last < first) = false := by simp; omega
  have t8 : (point == -1) = false := by simp; omega
  have t9 : decide (first ≤ point) = true := by simp; omega
  have f9 : decide (point < first) = false := by simp; omega
  have t10 : decide (last < point) = true := by simp; omega
  have f10 : decide (point ≤ last) = false := by simp; omega
  go_enter Try.func25, Try.ntmps25
  go_wp2_with fail
  go_ret
  exact ⟨rfl, (Below.refl _ _).alloc (Nat.le_refl _) _⟩

set_option maxHeartbeats 1000000 in
theorem may_11 (who kind obj a b val first last point : Int) (is : Bool) (w : World) (h0 : 0 ≤ who) (h1 : who ≤ 7) (h2 : 1 ≤ kind) (h3 : kind ≤ 7) (h4 : 0 ≤ obj) (h5 : obj ≤ 7) (h6 : 0 ≤ first) (h7 : first ≤ last) (h8 : point ≠ -1) (h9 : first ≤ point) (h10 : point ≤ last) : Calls Try.prog 25 #[.agg #[.int .i64 who, .int .i64 kind, .int .i64 obj, .int .i64 a, .int .i64 b, .int .i64 val, .bool is, .int .i64 first, .int .i64 last, .int .i64 point]] w fun e w' => e = .returned (.bool true) ∧ Below w.heap.size w w' := by
  have t0 : decide (0 ≤ who) = true := by simp; omega
  have f0 : decide (who < 0) = false := by simp; omega
  have t1 : decide (who ≤ 7) = true := by simp; omega
  have f1 : decide (7 < who) = false := by simp; omega
  have s1 : decide (who < 8) = true := by simp; omega
  have t2 : decide (1 ≤ kind) = true := by simp; omega
  have f2 : decide (kind < 1) = false := by simp; omega
  have t3 : decide (kind ≤ 7) = true := by simp; omega
  have f3 : decide (7 < kind) = false := by simp; omega
  have s3 : decide (kind < 8) = true := by simp; omega
  have t4 : decide (0 ≤ obj) = true := by simp; omega
  have f4 : decide (obj < 0) = false := by simp; omega
  have t5 : decide (obj ≤ 7) = true := by simp; omega
  have f5 : decide (7 < obj) = false := by simp; omega
  have s5 : decide (obj < 8) = true := by simp; omega
  have t6 : decide (0 ≤ first) = true := by simp; omega
  have f6 : decide (first < 0) = false := by simp; omega
  have t7 : decide (first ≤ last) = true := by simp; omega
  have f7 : decide (last < first) = false := by simp; omega
  have t8 : (point == -1) = false := by simp; omega
  have t9 : decide (first ≤ point) = true := by simp; omega
  have f9 : decide (point < first) = false := by simp; omega
  have t10 : decide (point ≤ last) = true := by simp; omega
  have f10 : decide (last < point) = false := by simp; omega
  go_enter Try.func25, Try.ntmps25
  go_wp2_with fail
  go_ret
  exact ⟨rfl, (Below.refl _ _).alloc (Nat.le_refl _) _⟩

theorem may_any (c : CallV) (w : World) : Calls Try.prog 25 #[.agg #[.int .i64 c.who, .int .i64 c.kind, .int .i64 c.obj, .int .i64 c.a, .int .i64 c.b, .int .i64 c.val, .bool c.is, .int .i64 c.first, .int .i64 c.last, .int .i64 c.point]] w fun e w' => e = .returned (.bool (mayC c)) ∧ Below w.heap.size w w' := by
  by_cases q0 : c.who < 0
  · rw [show mayC c = false by unfold mayC; simp only [decide_eq_false_iff_not]; omega]
    exact may_0 _ _ _ _ _ _ _ _ _ _ w (by omega)
  by_cases q1 : 7 < c.who
  · rw [show mayC c = false by unfold mayC; simp only [decide_eq_false_iff_not]; omega]
    exact may_1 _ _ _ _ _ _ _ _ _ _ w (by omega) (by omega)
  by_cases q2 : c.kind < 1
  · rw [show mayC c = false by unfold mayC; simp only [decide_eq_false_iff_not]; omega]
    exact may_2 _ _ _ _ _ _ _ _ _ _ w (by omega) (by omega) (by omega)
  by_cases q3 : 7 < c.kind
  · rw [show mayC c = false by unfold mayC; simp only [decide_eq_false_iff_not]; omega]
    exact may_3 _ _ _ _ _ _ _ _ _ _ w (by omega) (by omega) (by omega) (by omega)
  by_cases q4 : c.obj < 0
  · rw [show mayC c = false by unfold mayC; simp only [decide_eq_false_iff_not]; omega]
    exact may_4 _ _ _ _ _ _ _ _ _ _ w (by omega) (by omega) (by omega) (by omega) (by omega)
  by_cases q5 : 7 < c.obj
  · rw [show mayC c = false by unfold mayC; simp only [decide_eq_false_iff_not]; omega]
    exact may_5 _ _ _ _ _ _ _ _ _ _ w (by omega) (by omega) (by omega) (by omega) (by omega) (by omega)
  by_cases q6 : c.first < 0
  · rw [show mayC c = false by unfold mayC; simp only [decide_eq_false_iff_not]; omega]
    exact may_6 _ _ _ _ _ _ _ _ _ _ w (by omega) (by omega) (by omega) (by omega) (by omega) (by omega) (by omega)
  by_cases q7 : c.last < c.first
  · rw [show mayC c = false by unfold mayC; simp only [decide_eq_false_iff_not]; omega]
    exact may_7 _ _ _ _ _ _ _ _ _ _ w (by omega) (by omega) (by omega) (by omega) (by omega) (by omega) (by omega) (by omega)
  by_cases q8 : c.point = -1
  · rw [show mayC c = true by unfold mayC; simp only [decide_eq_true_eq]; omega]
    exact may_8 _ _ _ _ _ _ _ _ _ _ w (by omega) (by omega) (by omega) (by omega) (by omega) (by omega) (by omega) (by omega) (by omega)
  by_cases q9 : c.point < c.first
  · rw [show mayC c = false by unfold mayC; simp only [decide_eq_false_iff_not]; omega]
    exact may_9 _ _ _ _ _ _ _ _ _ _ w (by omega) (by omega) (by omega) (by omega) (by omega) (by omega) (by omega) (by omega) (by omega) (by omega)
  by_cases q10 : c.last < c.point
  · rw [show mayC c = false by unfold mayC; simp only [decide_eq_false_iff_not]; omega]
    exact may_10 _ _ _ _ _ _ _ _ _ _ w (by omega) (by omega) (by omega) (by omega) (by omega) (by omega) (by omega) (by omega) (by omega) (by omega) (by omega)
  rw [show mayC c = true by unfold mayC; simp only [decide_eq_true_eq]; omega]
  exact may_11 _ _ _ _ _ _ _ _ _ _ w (by omega) (by omega) (by omega) (by omega) (by omega) (by omega) (by omega) (by omega) (by omega) (by omega) (by omega)

set_option maxHeartbeats 1000000 in
theorem rmay_0 (who kind obj a b val first last point : Int) (is : Bool) (w : World) (h0 : who < 0) : Calls Try.prog 16 #[.agg #[.int .i64 who, .int .i64 kind, .int .i64 obj, .int .i64 a, .int .i64 b, .int .i64 val, .bool is, .int .i64 first, .int .i64 last, .int .i64 point]] w fun e w' => e = .returned (.bool false) ∧ Below w.heap.size w w' := by
  have t0 : decide (who < 0) = true := by simp; omega
  have f0 : decide (0 ≤ who) = false := by simp; omega
  go_enter Try.func16, Try.ntmps16
  go_wp2_with fail
  go_ret
  exact ⟨rfl, (Below.refl _ _).alloc (Nat.le_refl _) _⟩

set_option maxHeartbeats 1000000 in
theorem rmay_1 (who kind obj a b val first last point : Int) (is : Bool) (w : World) (h0 : 0 ≤ who) (h1 : 7 < who) : Calls Try.prog 16 #[.agg #[.int .i64 who, .int .i64 kind, .int .i64 obj, .int .i64 a, .int .i64 b, .int .i64 val, .bool is, .int .i64 first, .int .i64 last, .int .i64 point]] w fun e w' => e = .returned (.bool false) ∧ Below w.heap.size w w' := by
  have t0 : decide (0 ≤ who) = true := by simp; omega
  have f0 : decide (who < 0) = false := by simp; omega
  have t1 : decide (7 < who) = true := by simp; omega
  have f1 : decide (who ≤ 7) = false := by simp; omega
  have s1 : decide (who < 8) = false := by simp; omega
  go_enter Try.func16, Try.ntmps16
  go_wp2_with fail
  go_ret
  exact ⟨rfl, (Below.refl _ _).alloc (Nat.le_refl _) _⟩

set_option maxHeartbeats 1000000 in
theorem rmay_2 (who kind obj a b val first last point : Int) (is : Bool) (w : World) (h0 : 0 ≤ who) (h1 : who ≤ 7) (h2 : kind < 1) : Calls Try.prog 16 #[.agg #[.int .i64 who, .int .i64 kind, .int .i64 obj, .int .i64 a, .int .i64 b, .int .i64 val, .bool is, .int .i64 first, .int .i64 last, .int .i64 point]] w fun e w' => e = .returned (.bool false) ∧ Below w.heap.size w w' := by
  have t0 : decide (0 ≤ who) = true := by simp; omega
  have f0 : decide (who < 0) = false := by simp; omega
  have t1 : decide (who ≤ 7) = true := by simp; omega
  have f1 : decide (7 < who) = false := by simp; omega
  have s1 : decide (who < 8) = true := by simp; omega
  have t2 : decide (kind < 1) = true := by simp; omega
  have f2 : decide (1 ≤ kind) = false := by simp; omega
  go_enter Try.func16, Try.ntmps16
  go_wp2_with fail
  go_ret
  exact ⟨rfl, (Below.refl _ _).alloc (Nat.le_refl _) _⟩

set_option maxHeartbeats 1000000 in
theorem rmay_3 (who kind obj a b val first last point : Int) (is : Bool) (w : World) (h0 : 0 ≤ who) (h1 : who ≤ 7) (h2 : 1 ≤ kind) (h3 : 7 < kind) : Calls Try.prog 16 #[.agg #[.int .i64 who, .int .i64 kind, .int .i64 obj, .int .i64 a, .int .i64 b, .int .i64 val, .bool is, .int .i64 first, .int .i64 last, .int .i64 point]] w fun e w' => e = .returned (.bool false) ∧ Below w.heap.size w w' := by
  have t0 : decide (0 ≤ who) = true := by simp; omega
  have f0 : decide (who < 0) = false := by simp; omega
  have t1 : decide (who ≤ 7) = true := by simp; omega
  have f1 : decide (7 < who) = false := by simp; omega
  have s1 : decide (who < 8) = true := by simp; omega
  have t2 : decide (1 ≤ kind) = true := by simp; omega
  have f2 : decide (kind < 1) = false := by simp; omega
  have t3 : decide (7 < kind) = true := by simp; omega
  have f3 : decide (kind ≤ 7) = false := by simp; omega
  have s3 : decide (kind < 8) = false := by simp; omega
  go_enter Try.func16, Try.ntmps16
  go_wp2_with fail
  go_ret
  exact ⟨rfl, (Below.refl _ _).alloc (Nat.le_refl _) _⟩

set_option maxHeartbeats 1000000 in
theorem rmay_4 (who kind obj a b val first last point : Int) (is : Bool) (w : World) (h0 : 0 ≤ who) (h1 : who ≤ 7) (h2 : 1 ≤ kind) (h3 : kind ≤ 7) (h4 : obj < 0) : Calls Try.prog 16 #[.agg #[.int .i64 who, .int .i64 kind, .int .i64 obj, .int .i64 a, .int .i64 b, .int .i64 val, .bool is, .int .i64 first, .int .i64 last, .int .i64 point]] w fun e w' => e = .returned (.bool false) ∧ Below w.heap.size w w' := by
  have t0 : decide (0 ≤ who) = true := by simp; omega
  have f0 : decide (who < 0) = false := by simp; omega
  have t1 : decide (who ≤ 7) = true := by simp; omega
  have f1 : decide (7 < who) = false := by simp; omega
  have s1 : decide (who < 8) = true := by simp; omega
  have t2 : decide (1 ≤ kind) = true := by simp; omega
  have f2 : decide (kind < 1) = false := by simp; omega
  have t3 : decide (kind ≤ 7) = true := by simp; omega
  have f3 : decide (7 < kind) = false := by simp; omega
  have s3 : decide (kind < 8) = true := by simp; omega
  have t4 : decide (obj < 0) = true := by simp; omega
  have f4 : decide (0 ≤ obj) = false := by simp; omega
  go_enter Try.func16, Try.ntmps16
  go_wp2_with fail
  go_ret
  exact ⟨rfl, (Below.refl _ _).alloc (Nat.le_refl _) _⟩

set_option maxHeartbeats 1000000 in
theorem rmay_5 (who kind obj a b val first last point : Int) (is : Bool) (w : World) (h0 : 0 ≤ who) (h1 : who ≤ 7) (h2 : 1 ≤ kind) (h3 : kind ≤ 7) (h4 : 0 ≤ obj) (h5 : 7 < obj) : Calls Try.prog 16 #[.agg #[.int .i64 who, .int .i64 kind, .int .i64 obj, .int .i64 a, .int .i64 b, .int .i64 val, .bool is, .int .i64 first, .int .i64 last, .int .i64 point]] w fun e w' => e = .returned (.bool false) ∧ Below w.heap.size w w' := by
  have t0 : decide (0 ≤ who) = true := by simp; omega
  have f0 : decide (who < 0) = false := by simp; omega
  have t1 : decide (who ≤ 7) = true := by simp; omega
  have f1 : decide (7 < who) = false := by simp; omega
  have s1 : decide (who < 8) = true := by simp; omega
  have t2 : decide (1 ≤ kind) = true := by simp; omega
  have f2 : decide (kind < 1) = false := by simp; omega
  have t3 : decide (kind ≤ 7) = true := by simp; omega
  have f3 : decide (7 < kind) = false := by simp; omega
  have s3 : decide (kind < 8) = true := by simp; omega
  have t4 : decide (0 ≤ obj) = true := by simp; omega
  have f4 : decide (obj < 0) = false := by simp; omega
  have t5 : decide (7 < obj) = true := by simp; omega
  have f5 : decide (obj ≤ 7) = false := by simp; omega
  have s5 : decide (obj < 8) = false := by simp; omega
  go_enter Try.func16, Try.ntmps16
  go_wp2_with fail
  go_ret
  exact ⟨rfl, (Below.refl _ _).alloc (Nat.le_refl _) _⟩

set_option maxHeartbeats 1000000 in
theorem rmay_6 (who kind obj a b val first last point : Int) (is : Bool) (w : World) (h0 : 0 ≤ who) (h1 : who ≤ 7) (h2 : 1 ≤ kind) (h3 : kind ≤ 7) (h4 : 0 ≤ obj) (h5 : obj ≤ 7) (h6 : first < 0) : Calls Try.prog 16 #[.agg #[.int .i64 who, .int .i64 kind, .int .i64 obj, .int .i64 a, .int .i64 b, .int .i64 val, .bool is, .int .i64 first, .int .i64 last, .int .i64 point]] w fun e w' => e = .returned (.bool false) ∧ Below w.heap.size w w' := by
  have t0 : decide (0 ≤ who) = true := by simp; omega
  have f0 : decide (who < 0) = false := by simp; omega
  have t1 : decide (who ≤ 7) = true := by simp; omega
  have f1 : decide (7 < who) = false := by simp; omega
  have s1 : decide (who < 8) = true := by simp; omega
  have t2 : decide (1 ≤ kind) = true := by simp; omega
  have f2 : decide (kind < 1) = false := by simp; omega
  have t3 : decide (kind ≤ 7) = true := by simp; omega
  have f3 : decide (7 < kind) = false := by simp; omega
  have s3 : decide (kind < 8) = true := by simp; omega
  have t4 : decide (0 ≤ obj) = true := by simp; omega
  have f4 : decide (obj < 0) = false := by simp; omega
  have t5 : decide (obj ≤ 7) = true := by simp; omega
  have f5 : decide (7 < obj) = false := by simp; omega
  have s5 : decide (obj < 8) = true := by simp; omega
  have t6 : decide (first < 0) = true := by simp; omega
  have f6 : decide (0 ≤ first) = false := by simp; omega
  go_enter Try.func16, Try.ntmps16
  go_wp2_with fail
  go_ret
  exact ⟨rfl, (Below.refl _ _).alloc (Nat.le_refl _) _⟩

set_option maxHeartbeats 1000000 in
theorem rmay_7 (who kind obj a b val first last point : Int) (is : Bool) (w : World) (h0 : 0 ≤ who) (h1 : who ≤ 7) (h2 : 1 ≤ kind) (h3 : kind ≤ 7) (h4 : 0 ≤ obj) (h5 : obj ≤ 7) (h6 : 0 ≤ first) (h7 : last < first) : Calls Try.prog 16 #[.agg #[.int .i64 who, .int .i64 kind, .int .i64 obj, .int .i64 a, .int .i64 b, .int .i64 val, .bool is, .int .i64 first, .int .i64 last, .int .i64 point]] w fun e w' => e = .returned (.bool false) ∧ Below w.heap.size w w' := by
  have t0 : decide (0 ≤ who) = true := by simp; omega
  have f0 : decide (who < 0) = false := by simp; omega
  have t1 : decide (who ≤ 7) = true := by simp; omega
  have f1 : decide (7 < who) = false := by simp; omega
  have s1 : decide (who < 8) = true := by simp; omega
  have t2 : decide (1 ≤ kind) = true := by simp; omega
  have f2 : decide (kind < 1) = false := by simp; omega
  have t3 : decide (kind ≤ 7) = true := by simp; omega
  have f3 : decide (7 < kind) = false := by simp; omega
  have s3 : decide (kind < 8) = true := by simp; omega
  have t4 : decide (0 ≤ obj) = true := by simp; omega
  have f4 : decide (obj < 0) = false := by simp; omega
  have t5 : decide (obj ≤ 7) = true := by simp; omega
  have f5 : decide (7 < obj) = false := by simp; omega
  have s5 : decide (obj < 8) = true := by simp; omega
  have t6 : decide (0 ≤ first) = true := by simp; omega
  have f6 : decide (first < 0) = false := by simp; omega
  have t7 : decide (last < first) = true := by simp; omega
  have f7 : decide (first ≤ last) = false := by simp; omega
  go_enter Try.func16, Try.ntmps16
  go_wp2_with fail
  go_ret
  exact ⟨rfl, (Below.refl _ _).alloc (Nat.le_refl _) _⟩

set_option maxHeartbeats 1000000 in
theorem rmay_8 (who kind obj a b val first last point : Int) (is : Bool) (w : World) (h0 : 0 ≤ who) (h1 : who ≤ 7) (h2 : 1 ≤ kind) (h3 : kind ≤ 7) (h4 : 0 ≤ obj) (h5 : obj ≤ 7) (h6 : 0 ≤ first) (h7 : first ≤ last) (h8 : point = -1) : Calls Try.prog 16 #[.agg #[.int .i64 who, .int .i64 kind, .int .i64 obj, .int .i64 a, .int .i64 b, .int .i64 val, .bool is, .int .i64 first, .int .i64 last, .int .i64 point]] w fun e w' => e = .returned (.bool true) ∧ Below w.heap.size w w' := by
  have t0 : decide (0 ≤ who) = true := by simp; omega
  have f0 : decide (who < 0) = false := by simp; omega
  have t1 : decide (who ≤ 7) = true := by simp; omega
  have f1 : decide (7 < who) = false := by simp; omega
  have s1 : decide (who < 8) = true := by simp; omega
  have t2 : decide (1 ≤ kind) = true := by simp; omega
  have f2 : decide (kind < 1) = false := by simp; omega
  have t3 : decide (kind ≤ 7) = true := by simp; omega
  have f3 : decide (7 < kind) = false := by simp; omega
  have s3 : decide (kind < 8) = true := by simp; omega
  have t4 : decide (0 ≤ obj) = true := by simp; omega
  have f4 : decide (obj < 0) = false := by simp; omega
  have t5 : decide (obj ≤ 7) = true := by simp; omega
  have f5 : decide (7 < obj) = false := by simp; omega
  have s5 : decide (obj < 8) = true := by simp; omega
  have t6 : decide (0 ≤ first) = true := by simp; omega
  have f6 : decide (first < 0) = false := by simp; omega
  have t7 : decide (first ≤ last) = true := by simp; omega
  have f7 : decide (last < first) = false := by simp; omega
  have t8 : (point == -1) = true := by simp; omega
  subst h8
  go_enter Try.func16, Try.ntmps16
  go_wp2_with fail
  go_ret
  exact ⟨rfl, (Below.refl _ _).alloc (Nat.le_refl _) _⟩

set_option maxHeartbeats 1000000 in
theorem rmay_9 (who kind obj a b val first last point : Int) (is : Bool) (w : World) (h0 : 0 ≤ who) (h1 : who ≤ 7) (h2 : 1 ≤ kind) (h3 : kind ≤ 7) (h4 : 0 ≤ obj) (h5 : obj ≤ 7) (h6 : 0 ≤ first) (h7 : first ≤ last) (h8 : point ≠ -1) (h9 : point < first) : Calls Try.prog 16 #[.agg #[.int .i64 who, .int .i64 kind, .int .i64 obj, .int .i64 a, .int .i64 b, .int .i64 val, .bool is, .int .i64 first, .int .i64 last, .int .i64 point]] w fun e w' => e = .returned (.bool false) ∧ Below w.heap.size w w' := by
  have t0 : decide (0 ≤ who) = true := by simp; omega
  have f0 : decide (who < 0) = false := by simp; omega
  have t1 : decide (who ≤ 7) = true := by simp; omega
  have f1 : decide (7 < who) = false := by simp; omega
  have s1 : decide (who < 8) = true := by simp; omega
  have t2 : decide (1 ≤ kind) = true := by simp; omega
  have f2 : decide (kind < 1) = false := by simp; omega
  have t3 : decide (kind ≤ 7) = true := by simp; omega
  have f3 : decide (7 < kind) = false := by simp; omega
  have s3 : decide (kind < 8) = true := by simp; omega
  have t4 : decide (0 ≤ obj) = true := by simp; omega
  have f4 : decide (obj < 0) = false := by simp; omega
  have t5 : decide (obj ≤ 7) = true := by simp; omega
  have f5 : decide (7 < obj) = false := by simp; omega
  have s5 : decide (obj < 8) = true := by simp; omega
  have t6 : decide (0 ≤ first) = true := by simp; omega
  have f6 : decide (first < 0) = false := by simp; omega
  have t7 : decide (first ≤ last) = true := by simp; omega
  have f7 : decide (last < first) = false := by simp; omega
  have t8 : (point == -1) = false := by simp; omega
  have t9 : decide (point < first) = true := by simp; omega
  have f9 : decide (first ≤ point) = false := by simp; omega
  go_enter Try.func16, Try.ntmps16
  go_wp2_with fail
  go_ret
  exact ⟨rfl, (Below.refl _ _).alloc (Nat.le_refl _) _⟩

set_option maxHeartbeats 1000000 in
theorem rmay_10 (who kind obj a b val first last point : Int) (is : Bool) (w : World) (h0 : 0 ≤ who) (h1 : who ≤ 7) (h2 : 1 ≤ kind) (h3 : kind ≤ 7) (h4 : 0 ≤ obj) (h5 : obj ≤ 7) (h6 : 0 ≤ first) (h7 : first ≤ last) (h8 : point ≠ -1) (h9 : first ≤ point) (h10 : last < point) : Calls Try.prog 16 #[.agg #[.int .i64 who, .int .i64 kind, .int .i64 obj, .int .i64 a, .int .i64 b, .int .i64 val, .bool is, .int .i64 first, .int .i64 last, .int .i64 point]] w fun e w' => e = .returned (.bool false) ∧ Below w.heap.size w w' := by
  have t0 : decide (0 ≤ who) = true := by simp; omega
  have f0 : decide (who < 0) = false := by simp; omega
  have t1 : decide (who ≤ 7) = true := by simp; omega
  have f1 : decide (7 < who) = false := by simp; omega
  have s1 : decide (who < 8) = true := by simp; omega
  have t2 : decide (1 ≤ kind) = true := by simp; omega
  have f2 : decide (kind < 1) = false := by simp; omega
  have t3 : decide (kind ≤ 7) = true := by simp; omega
  have f3 : decide (7 < kind) = false := by simp; omega
  have s3 : decide (kind < 8) = true := by simp; omega
  have t4 : decide (0 ≤ obj) = true := by simp; omega
  have f4 : decide (obj < 0) = false := by simp; omega
  have t5 : decide (obj ≤ 7) = true := by simp; omega
  have f5 : decide (7 < obj) = false := by simp; omega
  have s5 : decide (obj < 8) = true := by simp; omega
  have t6 : decide (0 ≤ first) = true := by simp; omega
  have f6 : decide (first < 0) = false := by simp; omega
  have t7 : decide (first ≤ last) = true := by simp; omega
  have f7 : decide (last < first) = false := by simp; omega
  have t8 : (point == -1) = false := by simp; omega
  have t9 : decide (first ≤ point) = true := by simp; omega
  have f9 : decide (point < first) = false := by simp; omega
  have t10 : decide (last < point) = true := by simp; omega
  have f10 : decide (point ≤ last) = false := by simp; omega
  go_enter Try.func16, Try.ntmps16
  go_wp2_with fail
  go_ret
  exact ⟨rfl, (Below.refl _ _).alloc (Nat.le_refl _) _⟩

set_option maxHeartbeats 1000000 in
theorem rmay_11 (who kind obj a b val first last point : Int) (is : Bool) (w : World) (h0 : 0 ≤ who) (h1 : who ≤ 7) (h2 : 1 ≤ kind) (h3 : kind ≤ 7) (h4 : 0 ≤ obj) (h5 : obj ≤ 7) (h6 : 0 ≤ first) (h7 : first ≤ last) (h8 : point ≠ -1) (h9 : first ≤ point) (h10 : point ≤ last) : Calls Try.prog 16 #[.agg #[.int .i64 who, .int .i64 kind, .int .i64 obj, .int .i64 a, .int .i64 b, .int .i64 val, .bool is, .int .i64 first, .int .i64 last, .int .i64 point]] w fun e w' => e = .returned (.bool true) ∧ Below w.heap.size w w' := by
  have t0 : decide (0 ≤ who) = true := by simp; omega
  have f0 : decide (who < 0) = false := by simp; omega
  have t1 : decide (who ≤ 7) = true := by simp; omega
  have f1 : decide (7 < who) = false := by simp; omega
  have s1 : decide (who < 8) = true := by simp; omega
  have t2 : decide (1 ≤ kind) = true := by simp; omega
  have f2 : decide (kind < 1) = false := by simp; omega
  have t3 : decide (kind ≤ 7) = true := by simp; omega
  have f3 : decide (7 < kind) = false := by simp; omega
  have s3 : decide (kind < 8) = true := by simp; omega
  have t4 : decide (0 ≤ obj) = true := by simp; omega
  have f4 : decide (obj < 0) = false := by simp; omega
  have t5 : decide (obj ≤ 7) = true := by simp; omega
  have f5 : decide (7 < obj) = false := by simp; omega
  have s5 : decide (obj < 8) = true := by simp; omega
  have t6 : decide (0 ≤ first) = true := by simp; omega
  have f6 : decide (first < 0) = false := by simp; omega
  have t7 : decide (first ≤ last) = true := by simp; omega
  have f7 : decide (last < first) = false := by simp; omega
  have t8 : (point == -1) = false := by simp; omega
  have t9 : decide (first ≤ point) = true := by simp; omega
  have f9 : decide (point < first) = false := by simp; omega
  have t10 : decide (point ≤ last) = true := by simp; omega
  have f10 : decide (last < point) = false := by simp; omega
  go_enter Try.func16, Try.ntmps16
  go_wp2_with fail
  go_ret
  exact ⟨rfl, (Below.refl _ _).alloc (Nat.le_refl _) _⟩

theorem rmay_any (c : CallV) (w : World) : Calls Try.prog 16 #[.agg #[.int .i64 c.who, .int .i64 c.kind, .int .i64 c.obj, .int .i64 c.a, .int .i64 c.b, .int .i64 c.val, .bool c.is, .int .i64 c.first, .int .i64 c.last, .int .i64 c.point]] w fun e w' => e = .returned (.bool (mayC c)) ∧ Below w.heap.size w w' := by
  by_cases q0 : c.who < 0
  · rw [show mayC c = false by unfold mayC; simp only [decide_eq_false_iff_not]; omega]
    exact rmay_0 _ _ _ _ _ _ _ _ _ _ w (by omega)
  by_cases q1 : 7 < c.who
  · rw [show mayC c = false by unfold mayC; simp only [decide_eq_false_iff_not]; omega]
    exact rmay_1 _ _ _ _ _ _ _ _ _ _ w (by omega) (by omega)
  by_cases q2 : c.kind < 1
  · rw [show mayC c = false by unfold mayC; simp only [decide_eq_false_iff_not]; omega]
    exact rmay_2 _ _ _ _ _ _ _ _ _ _ w (by omega) (by omega) (by omega)
  by_cases q3 : 7 < c.kind
  · rw [show mayC c = false by unfold mayC; simp only [decide_eq_false_iff_not]; omega]
    exact rmay_3 _ _ _ _ _ _ _ _ _ _ w (by omega) (by omega) (by omega) (by omega)
  by_cases q4 : c.obj < 0
  · rw [show mayC c = false by unfold mayC; simp only [decide_eq_false_iff_not]; omega]
    exact rmay_4 _ _ _ _ _ _ _ _ _ _ w (by omega) (by omega) (by omega) (by omega) (by omega)
  by_cases q5 : 7 < c.obj
  · rw [show mayC c = false by unfold mayC; simp only [decide_eq_false_iff_not]; omega]
    exact rmay_5 _ _ _ _ _ _ _ _ _ _ w (by omega) (by omega) (by omega) (by omega) (by omega) (by omega)
  by_cases q6 : c.first < 0
  · rw [show mayC c = false by unfold mayC; simp only [decide_eq_false_iff_not]; omega]
    exact rmay_6 _ _ _ _ _ _ _ _ _ _ w (by omega) (by omega) (by omega) (by omega) (by omega) (by omega) (by omega)
  by_cases q7 : c.last < c.first
  · rw [show mayC c = false by unfold mayC; simp only [decide_eq_false_iff_not]; omega]
    exact rmay_7 _ _ _ _ _ _ _ _ _ _ w (by omega) (by omega) (by omega) (by omega) (by omega) (by omega) (by omega) (by omega)
  by_cases q8 : c.point = -1
  · rw [show mayC c = true by unfold mayC; simp only [decide_eq_true_eq]; omega]
    exact rmay_8 _ _ _ _ _ _ _ _ _ _ w (by omega) (by omega) (by omega) (by omega) (by omega) (by omega) (by omega) (by omega) (by omega)
  by_cases q9 : c.point < c.first
  · rw [show mayC c = false by unfold mayC; simp only [decide_eq_false_iff_not]; omega]
    exact rmay_9 _ _ _ _ _ _ _ _ _ _ w (by omega) (by omega) (by omega) (by omega) (by omega) (by omega) (by omega) (by omega) (by omega) (by omega)
  by_cases q10 : c.last < c.point
  · rw [show mayC c = false by unfold mayC; simp only [decide_eq_false_iff_not]; omega]
    exact rmay_10 _ _ _ _ _ _ _ _ _ _ w (by omega) (by omega) (by omega) (by omega) (by omega) (by omega) (by omega) (by omega) (by omega) (by omega) (by omega)
  rw [show mayC c = true by unfold mayC; simp only [decide_eq_true_eq]; omega]
  exact rmay_11 _ _ _ _ _ _ _ _ _ _ w (by omega) (by omega) (by omega) (by omega) (by omega) (by omega) (by omega) (by omega) (by omega) (by omega) (by omega)

end Go.Proofs.Ytedgliaablokcaa
