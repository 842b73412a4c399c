/-
  WIRE: the walk of the law WirePuts.
-/
import Derived.Test.YtljblkhjpnipgaaWireI
import Derived.Test.YtljblkhjpnipgaaWireP
namespace Go.Proofs.Ytljblkhjpnipgaa
open Go.ChangeShapes Go.WideShapes Go.ChangeAt Go.RowKit Go.Lib

set_option maxHeartbeats 1000000 in
theorem walkWirePuts (n : Int) (w : World) (hn : -9223372036854775808 ≤ n ∧ n ≤ 9223372036854775807) :
    Calls Try.prog 3 #[.int .i64 n] w fun e w' => e = .returned (.bool true) ∧ Below w.heap.size w w' := by
  have hl := putF_len10 (zig_lt hn.1 hn.2)
  obtain ⟨bs, hbs⟩ : ∃ bs, putF (zig n) = bs := ⟨_, rfl⟩
  rw [hbs] at hl
  go_enter Try.func3, Try.ntmps3
  go_wp2_with fail
  refine (alive_any w).mono ?_
  rintro e w1 ⟨rfl, b1⟩
  go_wp2_with fail
  refine (Put_any n w1 hn).mono ?_
  intro e w2 h
  obtain ⟨p2, c2, rfl, x2, -, -, b2⟩ := h.slice hbs rfl
  clear h
  go_wp2_with fail
  refine (rPut_any n w2 hn).mono ?_
  intro e w3 h
  obtain ⟨p3, c3, rfl, x3, -, -, b3⟩ := h.slice hbs rfl
  clear h
  go_wp2_with fail
  refine (rSame_any p2 p3 bs bs c2 c3 w3 (x2.later b3) x3 (by omega) (by omega)).mono ?_
  rintro e w4 ⟨rfl, b4⟩
  rw [show decide (bs = bs) = true from by simp]
  go_wp2_with fail
  go_ret
  exact ⟨rfl, below_trans b1 (below_trans b2 (below_trans b3 b4))⟩

end Go.Proofs.Ytljblkhjpnipgaa
