/-
  PLAIN ARITHMETIC of the masks, shifts and joins of whole numbers; no program here.
-/
import Derived.WalkKit
import Derived.IntWalk
namespace Go.Proofs.Ytbfbfpjfmdannaa
open Go.RowKit

theorem wrap64_small (n : Int) (h1 : -9223372036854775808 ≤ n) (h2 : n ≤ 9223372036854775807) : wrap64 n = n := by
  unfold wrap64; omega

theorem pow_le62 (b : Nat) (hb : b ≤ 62) : (2 : Int) ^ b ≤ 4611686018427387904 := by
  have h : (2 : Int) ^ b ≤ 2 ^ 62 := by
    have := Nat.pow_le_pow_right (n := 2) (by decide) hb
    exact_mod_cast this
  exact h
theorem pow_pos2 (b : Nat) : (1 : Int) ≤ 2 ^ b := by
  have := Nat.one_le_two_pow (n := b)
  exact_mod_cast this

theorem wrap_pow (b : Nat) (hb : b ≤ 62) : wrap64 (wrap64 (2 ^ b) - 1) = 2 ^ b - 1 := by
  have h1 := pow_le62 b hb
  have h2 := pow_pos2 b
  rw [wrap64_small (2 ^ b) (by omega) (by omega), wrap64_small _ (by omega) (by omega)]

theorem i64_wrap_nat (x : Nat) (h : x < 9223372036854775808) : IntKind.i64.wrap (x : Int) = x := by
  rw [IntKind.wrap_i64]; omega

theorem ofInt64 (n : Int) : (BitVec.ofInt 64 n).toNat = (n % 18446744073709551616).toNat := by
  rw [BitVec.toNat_ofInt]; rfl

theorem and_mask (n : Int) (b : Nat) (hb : b ≤ 62) : bits .and .i64 n (2 ^ b - 1) = n % 2 ^ b := by
  have hp : (2 : Nat) ^ b ≤ 2 ^ 62 := Nat.pow_le_pow_right (by decide) hb
  have h0 := Nat.one_le_two_pow (n := b)
  have e : ((2 : Int) ^ b - 1) = ((2 ^ b - 1 : Nat) : Int) := by
    rw [Int.natCast_sub h0]; simp
  show IntKind.i64.wrap ((BitVec.ofInt 64 n &&& BitVec.ofInt 64 (2 ^ b - 1)).toNat : Int) = _
  rw [BitVec.toNat_and, ofInt64, e, ofInt64]
  have e2 : ((((2 ^ b - 1 : Nat) : Int) % 18446744073709551616).toNat) = 2 ^ b - 1 := by omega
  rw [e2, Nat.and_two_pow_sub_one_eq_mod]
  have hlt : (n % 18446744073709551616).toNat % 2 ^ b < 2 ^ b := Nat.mod_lt _ (by omega)
  rw [i64_wrap_nat _ (by omega), Int.natCast_emod]
  have e3 : (((n % 18446744073709551616).toNat : Nat) : Int) = n % 18446744073709551616 := Int.toNat_of_nonneg (by omega)
  rw [e3]
  have hd : ((2 ^ b : Nat) : Int) ∣ 18446744073709551616 := by
    have : (2 : Nat) ^ b ∣ 2 ^ 64 := Nat.pow_dvd_pow 2 (by omega)
    have h := Int.natCast_dvd_natCast.2 this
    simpa using h
  rw [Int.emod_emod_of_dvd _ hd]
  simp

/-- two numbers that share no bit: the lower one below 2^i, the higher one a multiple of it -/
theorem or_join (x y : Int) (i : Nat) (hx0 : 0 ≤ x) (hx : x < 2 ^ i) (hy0 : 0 ≤ y) (hs : x + y * 2 ^ i < 9223372036854775808) :
    bits .or .i64 x (y * 2 ^ i) = x + y * 2 ^ i := by
  obtain ⟨a, rfl⟩ := Int.eq_ofNat_of_zero_le hx0
  obtain ⟨b, rfl⟩ := Int.eq_ofNat_of_zero_le hy0
  have e : ((b : Int) * 2 ^ i) = ((b * 2 ^ i : Nat) : Int) := by simp
  have hx' : a < 2 ^ i := by
    have : ((a : Nat) : Int) < ((2 ^ i : Nat) : Int) := by simpa using hx
    exact_mod_cast this
  rw [e] at hs ⊢
  have hb2 : b * 2 ^ i < 9223372036854775808 := by omega
  have ha2 : a < 9223372036854775808 := by omega
  show IntKind.i64.wrap ((BitVec.ofInt 64 (a : Int) ||| BitVec.ofInt 64 ((b * 2 ^ i : Nat) : Int)).toNat : Int) = _
  rw [BitVec.toNat_or, ofInt64, ofInt64]
  have e1 : ((a : Int) % 18446744073709551616).toNat = a := by omega
  have e2 : (((b * 2 ^ i : Nat) : Int) % 18446744073709551616).toNat = b * 2 ^ i := by omega
  rw [e1, e2]
  have e3 : a ||| b * 2 ^ i = b * 2 ^ i + a := by
    rw [Nat.or_comm, Nat.mul_comm]; exact (Nat.two_pow_add_eq_or_of_lt hx' b).symm
  rw [e3, i64_wrap_nat _ (by omega)]
  omega

theorem bits_or_comm (x y : Int) : bits .or .i64 x y = bits .or .i64 y x := by
  show IntKind.i64.wrap ((BitVec.ofInt 64 x ||| BitVec.ofInt 64 y).toNat : Int) = IntKind.i64.wrap ((BitVec.ofInt 64 y ||| BitVec.ofInt 64 x).toNat : Int)
  rw [BitVec.or_comm]
theorem or_join' (x y : Int) (i : Nat) (hx0 : 0 ≤ x) (hx : x < 2 ^ i) (hy0 : 0 ≤ y) (hs : x + y * 2 ^ i < 9223372036854775808) :
    bits .or .i64 (y * 2 ^ i) x = x + y * 2 ^ i := by
  rw [bits_or_comm]; exact or_join x y i hx0 hx hy0 hs

theorem tmod_neg (m n : Int) (hn : 1 ≤ n) (h : m.tmod n < 0) : m.tmod n + n = m % n := by
  have h0 : ¬ 0 ≤ m := fun h0 => by have := Int.tmod_nonneg n h0; omega
  have h1 := Int.tmod_eq_emod (a := m) (b := n)
  have h2 : ((n.natAbs : Nat) : Int) = n := by omega
  by_cases hd : n ∣ m
  · have := Int.tmod_eq_zero_of_dvd hd; omega
  · rw [if_neg (by simp [h0, hd])] at h1; omega
theorem tmod_pos (m n : Int) (hn : 1 ≤ n) (h : 0 ≤ m.tmod n) : m.tmod n = m % n := by
  have h1 := Int.tmod_eq_emod (a := m) (b := n)
  have h2 : ((n.natAbs : Nat) : Int) = n := by omega
  have h3 := Int.emod_lt_of_pos m (b := n) (by omega)
  split at h1 <;> omega

theorem mod_bd (n : Int) (b : Nat) : 0 ≤ n % 2 ^ b ∧ n % 2 ^ b < 2 ^ b :=
  ⟨Int.emod_nonneg _ (by have := pow_pos2 b; omega), Int.emod_lt_of_pos _ (by have := pow_pos2 b; omega)⟩

end Go.Proofs.Ytbfbfpjfmdannaa
