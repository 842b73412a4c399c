/-
  WIRE: numbers as bytes, as plain functions; the contracts of turned, back.
-/
import Derived.Test.YtbfbfpjfmdannaaRows
import Derived.ProofKit
import Derived.Test.YtbfbfpjfmdannaaUBits
import Derived.Test.YtbfbfpjfmdannaaByts
import Derived.Test.YtbfbfpjfmdannaaGet
namespace Go.Proofs.Ytbfbfpjfmdannaa
open Go.ChangeShapes Go.WideShapes Go.ChangeAt Go.RowKit

set_option maxHeartbeats 1000000 in
theorem turned_any (n : Int) (w : World) (hn : In64 n) :
    Calls Try.prog 44 #[.int .i64 n] w fun e w' => e = .returned (.int .u64 (zig n : Nat)) ∧ w' = w := by
  unfold In64 at hn
  go_enter Try.func44, Try.ntmps44
  go_wp2
  go_ret
  exact ⟨by rw [xor_zig n hn.1 hn.2]; rfl, rfl⟩

set_option maxHeartbeats 1000000 in
theorem back_any (u : Nat) (w : World) (hn : u < 18446744073709551616) :
    Calls Try.prog 43 #[.int .u64 (u : Int)] w fun e w' => e = .returned (.int .i64 (zag u)) ∧ w' = w := by
  go_enter Try.func43, Try.ntmps43
  go_wp2
  go_ret
  exact ⟨by rw [xor_zag u hn]; rfl, rfl⟩

set_option maxHeartbeats 1000000 in
theorem rturned_any (n : Int) (w : World) (hn : In64 n) :
    Calls Try.prog 45 #[.int .i64 n] w fun e w' => e = .returned (.int .u64 (zig n : Nat)) ∧ w' = w := by
  unfold In64 at hn
  go_enter Try.func45, Try.ntmps45
  go_wp2
  all_goals go_ret
  all_goals (refine ⟨?_, rfl⟩; first | (rw [show ((zig n : Nat) : Int) = 2 * n from by unfold zig; split <;> omega]; rfl) | (rw [show ((zig n : Nat) : Int) = 2 * -(n + 1) + 1 from by unfold zig; split <;> omega]; rfl))

end Go.Proofs.Ytbfbfpjfmdannaa
