/-
  RING: the document's Ints.
-/
import Derived.Test.YtabgpoagnofifaaRows
import Derived.ProofKit
import Derived.Test.YtabgpoagnofifaaRingV
namespace Go.Proofs.Ytabgpoagnofifaa
open Go.ChangeShapes Go.WideShapes Go.ChangeAt Go.RowKit

theorem ints_any (p1 p2 : Option Addr) (n c1 c2 : Nat) (xs : List Int) (hl : xs.length = n) (hn : n ≤ 1000) (w : World) (h1 : Ints w p1 xs) (h2 : Ints w p2 xs) :
    Calls Try.prog 20 #[.slice p1 n c1, .slice p2 n c2] w fun e w' => e = .returned (.bool true) ∧ Below w.heap.size w w' := by
  have H1 := Lib.hid h1
  have H2 := Lib.hid h2
  have HL := Lib.hid hl
  clear h1 h2 hl
  go_enter Try.func20, Try.ntmps20
  go_wp2_with fail
  go_loopw [5] (fun i wr => ∃ k : Nat, i = .int .i64 k ∧ k ≤ n ∧ Below w.heap.size w wr) (fun i _ => n - (intOf i).toNat)
  case atStart => exact ⟨0, rfl, Nat.zero_le _, Below.refl _ _⟩
  case round =>
    obtain ⟨k, rfl, hk, hb⟩ := hrel
    rename_i wr
    by_cases hlt : k < n
    · obtain ⟨a1, o1, x, rfl, -, q0, hx, -⟩ := (H1.out.later hb).at_ k (by rw [HL.out]; exact hlt)
      obtain ⟨a2, o2, x2, rfl, -, q1, hx2, -⟩ := (H2.out.later hb).at_ k (by rw [HL.out]; exact hlt)
      rw [hx] at hx2
      injection hx2 with hx2
      rw [← hx2] at q1
      have hlt2 : (k : Int) < n := by omega
      have hk0 : (0 : Int) ≤ k := by omega
      have HB := Lib.hid hb
      clear hx hx2 hb
      go_wp2_with fail
      go_quiet (fail)
      go_wp2_with fail
      go_roundw
      case rel => exact ⟨k + 1, by simp, by omega, bel_drewN HB.out _⟩
      case measure => simp [intOf]; omega
    · have hd : ¬ (k : Int) < n := by omega
      go_wp2_with fail
      go_ret
      exact ⟨rfl, hb⟩
end Go.Proofs.Ytabgpoagnofifaa
