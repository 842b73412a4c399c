/-
  RING: a deque's cells; Row's closure; Row, of a memory where all is there.
-/
import Derived.Test.YtabgpoagnofifaaRows
import Derived.ProofKit
import Derived.Test.YtabgpoagnofifaaRingM
namespace Go.Proofs.Ytabgpoagnofifaa
open Go.ChangeShapes Go.WideShapes Go.ChangeAt Go.RowKit

theorem deque_lay (X : Array Value) (f m a b : Int) (hf16 : X[16]? = some (.int .i64 f)) (hf : 0 ≤ f ∧ f ≤ 50000) (hm0 : X[0]? = some (.int .i64 m)) (hm : 0 ≤ m ∧ m ≤ 1000) (ha : 0 ≤ a ∧ a < m) (hb3 : 0 ≤ b ∧ b ≤ 2) (w : World) :
    Calls Try.prog 18 #[.agg X, .int .i64 a, .int .i64 b] w fun e w' => e = .returned (.int .i64 (f + a * 3 + b)) ∧ Below w.heap.size w w' := by
  have hbk : Blk (w.alloc (Obj.cells X 26)) w.heap.size 26 X := Blk.made w _ _
  have hb : Below w.heap.size w (w.alloc (Obj.cells X 26)) := (Below.refl _ w).alloc (Nat.le_refl _) _
  obtain ⟨V, hV⟩ : ∃ V, V = w.alloc (Obj.cells X 26) := ⟨_, rfl⟩
  rw [← hV] at hbk hb
  have hlt := hbk.lt
  have yf : ∀ y : After V, y.w.cell? ⟨w.heap.size, 16, none⟩ = some (.int .i64 f) := fun y => (y.cell hlt).trans ((hbk.cell 16).trans hf16)
  have ym : ∀ y : After V, y.w.cell? ⟨w.heap.size, 0, none⟩ = some (.int .i64 m) := fun y => (y.cell hlt).trans ((hbk.cell 0).trans hm0)
  have HA := Lib.hid fun w => at_any f a m 3 b 3 (by omega) (by omega) (by omega) (by omega) w
  have HV := Lib.hid hV
  have HB := Lib.hid hb
  have HQ : Hid (atP f a m 3 b 3 = f + a * 3 + b) := Lib.hid (by unfold atP; rw [if_neg (by omega)])
  clear hbk hb hV hf16 hm0
  go_enter Try.func18, Try.ntmps18
  go_wp2_with fail
  rw [← HV.out]
  refine wp_region_after (by kernel_rfl) (by kernel_rfl) ?_
  repeat (go_big_quiet_step (first
    | (go_at_call 29; exact calls_after (from0_any _ _ _))
    | (go_at_call 28; exact calls_after (HA.out _))))
  refine wpQuiet_nil ?_
  rintro _ ⟨y, rfl⟩
  go_wp2_with fail
  go_ret
  exact ⟨retI HQ.out, HB.out.trans (y.bel.mono HB.out.size)⟩

theorem has_any (c x : Int) (g Z M B : Nat) (h0 : 0 ≤ c) (hz : c < Z) (hZ : Z ≤ 5000) (w : World) (hM : w.cell? ⟨M, 0, none⟩ = some (.slice (some ⟨g, 0, none⟩) Z Z)) (hv : w.cell? ⟨g, c.toNat, none⟩ = some (.int .i64 x)) :
    Calls Try.prog 30 #[.int .i64 c, .pointer (some ⟨M, 0, none⟩), .pointer (some ⟨B, 0, none⟩)] w fun e w' => e = .returned (.int .i64 x) ∧ w' = w := by
  go_enter Try.func30, Try.ntmps30
  go_wp2_with fail
  go_ret
  exact ⟨rfl, rfl⟩
end Go.Proofs.Ytabgpoagnofifaa
