/-
  WORD: pointers of small fields.
-/
import Derived.Test.YtkdcmppkfgdjmaaWordD
namespace Go.Proofs.Ytkdcmppkfgdjmaa
open Go.ChangeShapes Go.WideShapes Go.ChangeAt Go.RowKit

/-- a pointer of small fields, as a number -/
def packed (i : Int) (m : Bool) (p : Int) : Int := i + (if m then 65536 else 0) + p * 131072
theorem packed_bd (i : Int) (m : Bool) (p : Int) (hi : 0 ≤ i ∧ i ≤ 65535) (hp : 0 ≤ p ∧ p ≤ 268435455) : 0 ≤ packed i m p ∧ packed i m p ≤ 35184372088831 := by
  unfold packed; cases m <;> simp <;> omega
theorem packed_inj (i k p q : Int) (m o : Bool) (hi : 0 ≤ i ∧ i ≤ 65535) (hp : 0 ≤ p ∧ p ≤ 268435455) (hk : 0 ≤ k ∧ k ≤ 65535) (hq : 0 ≤ q ∧ q ≤ 268435455) (h : packed i m p = packed k o q) : i = k ∧ m = o ∧ p = q := by
  unfold packed at h
  cases m <;> cases o <;> simp at h ⊢ <;> omega

theorem pack_small (i p : Int) (m : Bool) (w : World) (hi : 0 ≤ i ∧ i ≤ 65535) (hp : 0 ≤ p ∧ p ≤ 268435455) :
    Calls Try.prog 10 #[.agg #[.int .i64 i, .bool m, .int .i64 p]] w fun e w' => e = .returned (.int .i64 (packed i m p)) ∧ Below w.heap.size w w' := by
  have e : i % 65536 + (if m then 65536 else 0) + p % 268435456 * 131072 = packed i m p := by unfold packed; rw [Int.emod_eq_of_lt (by omega) (by omega), Int.emod_eq_of_lt (by omega) (by omega)]
  rw [← e]
  exact pack_any i p m w (by omega) (by omega)
theorem pack_norm (i c : Int) (m : Bool) (w : World) (hi : -9223372036854775808 ≤ i ∧ i ≤ 9223372036854775807) (hc : -9223372036854775808 ≤ c ∧ c ≤ 9223372036854775807) :
    Calls Try.prog 10 #[.agg #[.int .i64 i, .bool m, .int .i64 c]] w fun e w' => e = .returned (.int .i64 (packed (i % 65536) m (c % 268435456))) ∧ Below w.heap.size w w' := pack_any i c m w hi hc
theorem of_small (i p : Int) (m : Bool) (w : World) (hi : 0 ≤ i ∧ i ≤ 65535) (hp : 0 ≤ p ∧ p ≤ 268435455) :
    Calls Try.prog 12 #[.int .i64 (packed i m p)] w fun e w' => e = .returned (.agg #[.int .i64 i, .bool m, .int .i64 p]) ∧ Below w.heap.size w w' := by
  have hb := packed_bd i m p hi hp
  have e1 : packed i m p % 65536 = i := by unfold packed; cases m <;> simp <;> omega
  have e2 : (packed i m p / 65536 % 2 == 1) = m := by unfold packed; cases m <;> simp <;> omega
  have e3 : packed i m p / 131072 % 268435456 = p := by unfold packed; cases m <;> simp <;> omega
  have := of_any (packed i m p) w (by omega)
  rw [e1, e2, e3] at this
  exact this
theorem pack_of (x : Int) (w : World) (hx : 0 ≤ x ∧ x < 35184372088832) :
    Calls Try.prog 10 #[.agg #[.int .i64 (x % 65536), .bool (x / 65536 % 2 == 1), .int .i64 (x / 131072 % 268435456)]] w fun e w' => e = .returned (.int .i64 x) ∧ Below w.heap.size w w' := by
  have := pack_small (x % 65536) (x / 131072 % 268435456) (x / 65536 % 2 == 1) w (by omega) (by omega)
  have e : packed (x % 65536) (x / 65536 % 2 == 1) (x / 131072 % 268435456) = x := by
    unfold packed
    by_cases h : x / 65536 % 2 = 1
    · simp [h]; omega
    · simp [h]; omega
  rw [e] at this
  exact this

end Go.Proofs.Ytkdcmppkfgdjmaa
