/-
  WIRE: the walk of the law WireBack.
-/
import Derived.Test.YtljblkhjpnipgaaWireI
import Derived.Test.YtljblkhjpnipgaaWireP
namespace Go.Proofs.Ytljblkhjpnipgaa
open Go.ChangeShapes Go.WideShapes Go.ChangeAt Go.RowKit Go.Lib

set_option maxHeartbeats 2000000 in
theorem walkWireBack (n : Int) (a1 : Option Addr) (len1 cap1 : Nat) (z1 : List Int) (w : World) (hn : -9223372036854775808 ≤ n ∧ n ≤ 9223372036854775807) (h1 : IsRow .u8 w a1 len1 cap1 z1) :
    Calls Try.prog 5 #[.int .i64 n, .slice a1 len1 cap1] w fun e w' => e = .returned (.bool true) ∧ Below w.heap.size w w' := by
  obtain ⟨xs, hx, rfl, hcap, hp⟩ := row8 h1
  clear h1
  have HX := Lib.hid hx
  clear hx
  by_cases hlx : xs.length ≤ 1000
  · have g1 : ¬ ((1000 : Int) < xs.length) := by omega
    have hl := putF_len10 (zig_lt hn.1 hn.2)
    have hg := getF_put hn xs
    generalize hbs : putF (zig n) = bs at *
    have HBS := Lib.hid hbs
    have HG := Lib.hid hg
    clear hbs hg
    go_enter Try.func5, Try.ntmps5
    go_wp2_with fail
    refine (Put_any n w hn).mono ?_
    intro e w1 h
    obtain ⟨p1, c1, rfl, x1, hc1, -, b1⟩ := h.slice HBS.out rfl
    clear h
    obtain ⟨b, off, rfl, -, -⟩ := x1.cells 0 (by omega)
    have X1 := Lib.hid x1
    clear x1
    go_wp2_with (at_builtin; refine wpList_append_full rfl (.tmp 21) (.tmp 22) rfl b off bs rfl X1.out a1 xs cap1 rfl (HX.out.later b1) hp (by omega) ?_; intro q c w2 x2 hc2 hq2 b2)
    have hG := Get_any q (bs ++ xs) c w2 x2 (by simp; omega)
    unfold GetPost at hG
    rw [HG.out, List.length_append] at hG
    refine hG.mono ?_
    clear hG
    rintro e w3 ⟨rfl, b3⟩
    have bb := below_trans b1 (below_trans b2 b3)
    go_wp2_with fail
    refine (alive_any w3).mono ?_
    rintro e w4 ⟨rfl, b4⟩
    go_wp2_with fail
    go_ret
    exact ⟨by simp; omega, below_trans bb b4⟩
  · have g1 : (1000 : Int) < xs.length := by omega
    go_enter Try.func5, Try.ntmps5
    go_wp2_with fail
    refine (alive_any w).mono ?_
    rintro e w1 ⟨rfl, b1⟩
    go_wp2_with fail
    go_ret
    exact ⟨rfl, b1⟩

end Go.Proofs.Ytljblkhjpnipgaa
