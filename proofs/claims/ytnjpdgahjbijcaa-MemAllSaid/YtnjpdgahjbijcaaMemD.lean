/-
  MEM: the contracts of Same, on both sides.
-/
import Derived.Test.YtnjpdgahjbijcaaMemB
import Derived.Deep.QuietTactic
import Derived.BigQuiet
import Derived.WalkSmall
namespace Go.Proofs.Ytnjpdgahjbijcaa
open Go.ChangeShapes Go.WideShapes Go.ChangeAt Go.RowKit

theorem same_of {xs ys : List Int} (h : xs.length = ys.length) (k : Nat) (hk : xs.length ≤ k) (e : ∀ j, j < k → xs[j]? = ys[j]?) : xs = ys := by
  apply List.ext_getElem? 
  intro i
  by_cases hi : i < xs.length
  · exact e i (by omega)
  · rw [List.getElem?_eq_none (by omega), List.getElem?_eq_none (by omega)]

set_option maxHeartbeats 1000000 in
theorem equal_any (p q : Option Addr) (xs ys : List Int) (c d : Nat) (w : World) (hx : Ints w p xs) (hy : Ints w q ys) (hl : xs.length ≤ 1000000) (hl2 : ys.length ≤ 1000000) :
    Calls Try.prog 24 #[.slice p xs.length c, .slice q ys.length d] w fun e w' => e = .returned (.bool (decide (xs = ys))) ∧ Below w.heap.size w w' := by
  by_cases hlen : xs.length = ys.length
  · have hl0 : (xs.length == ys.length) = true := by simpa using hlen
    have HL := Lib.hid hlen
    obtain ⟨n, hn⟩ : ∃ n, xs.length = n := ⟨_, rfl⟩
    have hn2 : ys.length = n := by omega
    have HN := Lib.hid hn
    have HN2 := Lib.hid hn2
    rw [hn] at hl; rw [hn, hn2]
    clear hl0 hlen hl2 hn hn2
    go_enter Try.func24, Try.ntmps24
    go_wp2_with fail
    go_loopw [13] (fun i wr => ∃ k : Nat, k ≤ n ∧ i = .int .i64 k ∧ Below w.heap.size w wr ∧ ∀ j, j < k → xs[j]? = ys[j]?) (fun i _ => n - (intOf i).toNat)
    case atStart => exact ⟨0, Nat.zero_le _, rfl, Below.refl _ _, fun j hj => by omega⟩
    case round =>
      obtain ⟨k, hk, rfl, hb, he⟩ := hrel
      by_cases hlt : k < n
      · obtain ⟨b1, o1, x, h1, _, c1, ex, _⟩ := (hx.later hb).at_ k (by rw [HN.out]; exact hlt)
        obtain ⟨b2, o2, y, h2, _, c2, ey, _⟩ := (hy.later hb).at_ k (by rw [HN2.out]; exact hlt)
        subst h1 h2
        have HE := Lib.hid he
        have EX := Lib.hid ex
        have EY := Lib.hid ey
        clear he ex ey
        by_cases hxy : x = y
        · subst hxy
          go_wp2_with fail
          go_quiet (fail)
          go_wp2_with fail
          go_roundw
          case rel =>
            refine ⟨k + 1, by omega, by go_num, below_drewN hb _, fun j hj => ?_⟩
            by_cases hjk : j = k
            · subst hjk; rw [EX.out, EY.out]
            · exact HE.out j (by omega)
          case measure => simp [intOf]; omega
        · have hne : (x == y) = false := by simpa using hxy
          have hd : decide (xs = ys) = false := by
            rw [decide_eq_false_iff_not]; intro e
            have h1 := EX.out; rw [e, EY.out] at h1
            exact hxy (by injection h1 with h1; exact h1.symm)
          have HD := Lib.hid hd
          clear hd hxy
          go_wp2_with fail
          go_quiet (fail)
          go_wp2_with fail
          go_ret
          exact ⟨by rw [HD.out]; rfl, below_drewN hb _⟩
      · obtain rfl : k = n := by omega
        have hd : decide (xs = ys) = true := by
          rw [decide_eq_true_eq]; exact same_of HL.out k (by rw [HN.out]; omega) he
        have HD := Lib.hid hd
        clear hd he
        go_wp2_with fail
        go_ret
        exact ⟨by rw [HD.out]; rfl, hb⟩
  · have hne : ((xs.length : Int) == (ys.length : Int)) = false := by simp; omega
    have hd : decide (xs = ys) = false := by rw [decide_eq_false_iff_not]; intro e; exact hlen (by rw [e])
    have HD := Lib.hid hd
    clear hd hlen
    go_enter Try.func24, Try.ntmps24
    go_wp2_with fail
    go_ret
    exact ⟨by rw [HD.out]; rfl, Below.refl _ _⟩

set_option maxHeartbeats 1000000 in
theorem same_any (p q : Option Addr) (xs ys : List Int) (c d : Nat) (w : World) (hx : Ints w p xs) (hy : Ints w q ys) (hl : xs.length ≤ 1000000) (hl2 : ys.length ≤ 1000000) :
    Calls Try.prog 15 #[.agg #[.slice p xs.length c], .agg #[.slice q ys.length d]] w fun e w' => e = .returned (.bool (decide (xs = ys))) ∧ Below w.heap.size w w' := by
  go_enter Try.func15, Try.ntmps15
  go_wp2_with fail
  have hb : Below w.heap.size w ((w.alloc (Obj.cells #[Value.slice p xs.length c] 24)).alloc (Obj.cells #[Value.slice q ys.length d] 24)) := ((Below.refl _ _).alloc (Nat.le_refl _) _).alloc (by simp [go_sem]) _
  refine (equal_any p q xs ys c d _ (hx.later hb) (hy.later hb) hl hl2).mono ?_
  rintro e w1 ⟨rfl, hb1⟩
  go_wp2_with fail
  go_ret
  exact ⟨rfl, below_trans hb hb1⟩

end Go.Proofs.Ytnjpdgahjbijcaa
