/-
  WIRE: the walk of the law WireApart.
-/
import Derived.Test.YtljblkhjpnipgaaWireI
import Derived.Test.YtljblkhjpnipgaaWireP
namespace Go.Proofs.Ytljblkhjpnipgaa
open Go.ChangeShapes Go.WideShapes Go.ChangeAt Go.RowKit Go.Lib

set_option maxHeartbeats 2000000 in
theorem walkWireApart (m n : Int) (w : World) (hm : -9223372036854775808 ≤ m ∧ m ≤ 9223372036854775807) (hn : -9223372036854775808 ≤ n ∧ n ≤ 9223372036854775807) :
    Calls Try.prog 9 #[.int .i64 m, .int .i64 n] w fun e w' => e = .returned (.bool true) ∧ Below w.heap.size w w' := by
  have hl := putF_len10 (zig_lt hm.1 hm.2)
  have hl2 := putF_len10 (zig_lt hn.1 hn.2)
  have hmono := putF_mono
  have heq : decide (putF (zig m) = putF (zig n)) = decide (m = n) := by
    rw [decide_eq_decide]
    refine ⟨fun h => ?_, fun h => by rw [h]⟩
    have := putF_inj (zig_lt hm.1 hm.2) (zig_lt hn.1 hn.2) h
    rw [← zag_zig m, this, zag_zig]
  have hcase : (0 ≤ m ∧ 0 ≤ n ∧ m ≤ n ∧ (putF (zig m)).length ≤ (putF (zig n)).length) ∨ (0 ≤ m ∧ 0 ≤ n ∧ ¬ m ≤ n) ∨ (¬ 0 ≤ m ∧ ¬ 0 ≤ n ∧ n ≤ m ∧ (putF (zig m)).length ≤ (putF (zig n)).length) ∨ (¬ 0 ≤ m ∧ ¬ 0 ≤ n ∧ ¬ n ≤ m) ∨ (0 ≤ m ∧ ¬ 0 ≤ n) ∨ (¬ 0 ≤ m ∧ 0 ≤ n) := by
    by_cases h1 : 0 ≤ m
    · by_cases h2 : 0 ≤ n
      · by_cases h3 : m ≤ n
        · exact .inl ⟨h1, h2, h3, hmono _ _ (by unfold zig; rw [if_pos h1, if_pos h2]; omega)⟩
        · exact .inr (.inl ⟨h1, h2, h3⟩)
      · exact .inr (.inr (.inr (.inr (.inl ⟨h1, h2⟩))))
    · by_cases h2 : 0 ≤ n
      · exact .inr (.inr (.inr (.inr (.inr ⟨h1, h2⟩))))
      · by_cases h3 : n ≤ m
        · exact .inr (.inr (.inl ⟨h1, h2, h3, hmono _ _ (by unfold zig; rw [if_neg h1, if_neg h2]; omega)⟩))
        · exact .inr (.inr (.inr (.inl ⟨h1, h2, h3⟩)))
  clear hmono
  generalize hbs : putF (zig m) = bs at *
  generalize hcs : putF (zig n) = cs at *
  have HBS := Lib.hid hbs
  have HCS := Lib.hid hcs
  have HEQ := Lib.hid heq
  clear hbs hcs heq
  rcases hcase with ⟨h1, h2, h3, h4⟩ | ⟨h1, h2, h3⟩ | ⟨h1, h2, h3, h4⟩ | ⟨h1, h2, h3⟩ | ⟨h1, h2⟩ | ⟨h1, h2⟩
  all_goals (
    go_enter Try.func9, Try.ntmps9
    go_wp2_with fail
    refine (Put_any m w hm).mono ?_
    intro e w1 h
    obtain ⟨p1, c1, rfl, x1, -, -, b1⟩ := h.slice HBS.out rfl
    clear h
    go_wp2_with fail
    refine (Put_any n w1 hn).mono ?_
    intro e w2 h
    obtain ⟨p2, c2, rfl, x2, -, -, b2⟩ := h.slice HCS.out rfl
    clear h
    go_wp2_with fail
    refine (alive_any w2).mono ?_
    rintro e w3 ⟨rfl, b3⟩
    go_wp2_with fail
    refine (rSame_any p1 p2 bs cs c1 c2 w3 (x1.later (below_trans b2 b3)) (x2.later b3) (by omega) (by omega)).mono ?_
    rintro e w4 ⟨rfl, b4⟩
    rw [HEQ.out]
    go_wp2_with fail
    go_ret
    exact ⟨by simp; first | rfl | (rw [Bool.eq_iff_iff]; simp), below_trans b1 (below_trans b2 (below_trans b3 b4))⟩)

end Go.Proofs.Ytljblkhjpnipgaa
