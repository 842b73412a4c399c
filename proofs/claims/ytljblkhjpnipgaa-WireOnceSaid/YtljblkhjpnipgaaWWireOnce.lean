/-
  WIRE: the walk of the law WireOnce.
-/
import Derived.Test.YtljblkhjpnipgaaWireI
import Derived.Test.YtljblkhjpnipgaaWireR
import Derived.Deep.RegionHeld3
namespace Go.Proofs.Ytljblkhjpnipgaa
open Go.ChangeShapes Go.WideShapes Go.ChangeAt Go.RowKit Go.Lib

set_option maxHeartbeats 2000000 in
theorem walkWireOnce (a0 : Option Addr) (len0 cap0 : Nat) (z0 : List Int) (w : World) (h0 : IsRow .u8 w a0 len0 cap0 z0) :
    Calls Try.prog 6 #[.slice a0 len0 cap0] w fun e w' => e = .returned (.bool true) ∧ Below w.heap.size w w' := by
  obtain ⟨xs, hx, rfl, hcap, hp⟩ := row8 h0
  clear h0
  have HX := Lib.hid hx
  clear hx
  by_cases hlx : xs.length ≤ 1000
  · have g1 : ¬ ((1000 : Int) < xs.length) := by omega
    have hG := Get_any a0 xs cap0 w HX.out (by omega)
    unfold GetPost at hG
    rcases getF_cases xs with ⟨hg, -⟩ | ⟨u, m, hgu, hg, hm1, hm2, hm3⟩
    · rw [hg] at hG
      have HG := Lib.hid hG
      clear hG hg
      go_enter Try.func6, Try.ntmps6
      go_wp2_with fail
      refine HG.out.mono ?_
      rintro e w1 ⟨rfl, b1⟩
      go_wp2_with fail
      refine (alive_any w1).mono ?_
      rintro e w2 ⟨rfl, b2⟩
      go_wp2_with fail
      go_ret
      exact ⟨rfl, below_trans b1 b2⟩
    · rw [hg] at hG
      have hu := getG_bound xs 0 u m HX.out.rng hgu
      simp only [Nat.pow_zero, Nat.mul_one] at hu
      have hput : putF (zig (zag u)) = xs.take m := by rw [zig_zag, (getG_take xs 0 u m HX.out.rng hgu).1]
      have hshort : ∀ k, k < m → getF (xs.take k) = (0, 0, 3) := fun k hk => getF_none (getG_short xs 0 u m k hgu hk)
      have hz := zag_in hu
      have hml : (xs.take m).length = m := by simp; omega
      have HPUT := Lib.hid hput
      have HSH := Lib.hid hshort
      have HG := Lib.hid hG
      have HML := Lib.hid hml
      generalize zag u = n at *
      clear hG hg hput hshort hgu hml
      obtain ⟨b, off, rfl, -, -⟩ := HX.out.cells 0 (by omega)
      have hcm : m ≤ cap0 := by omega
      go_enter Try.func6, Try.ntmps6
      go_wp2_with fail
      refine HG.out.mono ?_
      rintro e w1 ⟨rfl, b1⟩
      clear HG
      have X1 := Lib.hid (HX.out.later b1)
      have hn0 : ¬ ((m : Int) < 1) := by omega
      have hn1 : ¬ ((xs.length : Int) < m) := by omega
      have d1 : decide ((m : Int) < 1) = false := by simpa using hn0
      have d2 : decide ((xs.length : Int) < (m : Int)) = false := by simpa using hn1
      have d3 : decide (xs.length < m) = false := by simp; omega
      have hmc : (m : Int) ≤ cap0 := by omega
      go_wp2_with fail
      go_region_held3 (fun w' => Below w1.heap.size w1 w')
        (first
          | (repeat (first | exact Below.refl _ _ | assumption | refine bel_drew ?_ | refine bel_alloc ?_ _)))
        (first
          | (go_at_call 16
             refine (Put_any n _ hz).mono ?_
             intro e w2 h
             obtain ⟨p2, c2, rfl, x2, -, -, b2⟩ := h.slice HPUT.out HML.out
             have X2 := Lib.hid x2
             clear h x2
             have bb2 := below_of w1 b2 (by repeat (first | exact Below.refl _ _ | assumption | refine bel_drew ?_ | refine bel_alloc ?_ _)))
          | (go_at_call 15
             have hS := rSame_any p2 (some ⟨b, off, none⟩) (xs.take m) (xs.take m) c2 cap0 w2 X2.out ((X1.out.later bb2).take m) (by rw [HML.out]; omega) (by rw [HML.out]; omega)
             rw [HML.out] at hS
             refine hS.mono ?_
             rw [show decide (xs.take m = xs.take m) = true from by simp]
             rintro e w3 ⟨rfl, b3⟩
             have bb3 := below_of w1 b3 (by repeat (first | exact Below.refl _ _ | assumption | refine bel_drew ?_ | refine bel_alloc ?_ _))))
      all_goals go_wp2_with fail
      go_loopw [49] (fun i wr => ∃ k : Nat, k ≤ m ∧ i = .int .i64 k ∧ Below w1.heap.size w1 wr) (fun i _ => m - (intOf i).toNat)
      case atStart => exact ⟨0, Nat.zero_le _, rfl, bb3⟩
      case round =>
        obtain ⟨k, hk, rfl, hbr⟩ := hrel
        by_cases hlt : k < m
        · have hG := Get_any (some ⟨b, off, none⟩) (xs.take k) cap0 wr ((X1.out.later hbr).take k) (by simp; omega)
          unfold GetPost at hG
          rw [HSH.out k hlt, List.length_take, Nat.min_eq_left (by omega)] at hG
          have HG := Lib.hid hG
          clear hG
          have hkc : k ≤ cap0 := by omega
          go_wp2_with fail
          refine HG.out.mono ?_
          rintro e w4 ⟨rfl, b4⟩
          have b14 := below_trans hbr b4
          go_wp2_with fail
          go_roundw
          case rel => exact ⟨k + 1, by omega, by go_num, b14⟩
          case measure => simp [intOf]; omega
        · obtain rfl : k = m := by omega
          go_wp2_with fail
          refine (alive_any wr).mono ?_
          rintro e w4 ⟨rfl, b4⟩
          go_wp2_with fail
          go_ret
          exact ⟨rfl, below_trans b1 (below_trans hbr b4)⟩
  · have g1 : (1000 : Int) < xs.length := by omega
    go_enter Try.func6, Try.ntmps6
    go_wp2_with fail
    refine (alive_any w).mono ?_
    rintro e w1 ⟨rfl, b1⟩
    go_wp2_with fail
    go_ret
    exact ⟨rfl, b1⟩

end Go.Proofs.Ytljblkhjpnipgaa
