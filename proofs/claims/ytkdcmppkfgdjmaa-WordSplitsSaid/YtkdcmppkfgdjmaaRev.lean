/-
  PLAIN: bits turned round.
-/
import Derived.Test.YtkdcmppkfgdjmaaWord
import Derived.Test.YtkdcmppkfgdjmaaWordB
namespace Go.Proofs.Ytkdcmppkfgdjmaa

theorem emod_mul' (n a b : Int) (ha : 0 < a) (hb : 0 < b) : n % (a * b) = a * (n / a % b) + n % a := by
  have h1 := Int.mul_ediv_add_emod n a
  have h2 := Int.mul_ediv_add_emod (n / a) b
  have h3 := Int.mul_ediv_add_emod n (a * b)
  have h4 : n / (a * b) = n / a / b := (Int.ediv_ediv_of_nonneg (by omega)).symm
  rw [h4] at h3
  generalize n / a / b = q at *
  generalize n / a % b = r at *
  have h5 : a * (n / a) = a * b * q + a * r := by rw [← h2, Int.mul_add, Int.mul_assoc]
  omega

theorem rev_add (n : Int) (i j : Nat) : revTo n (i + j) = revTo n i * 2 ^ j + revTo (n / 2 ^ i) j := by
  induction j with
  | zero => simp [revTo]
  | succ j ih =>
    rw [← Nat.add_assoc]
    simp only [revTo]
    rw [ih, div_pow_pow, Int.pow_succ]
    generalize revTo n i = a
    generalize (2 : Int) ^ j = p
    have : a * (p * 2) = 2 * (a * p) := by rw [← Int.mul_assoc, Int.mul_comm]
    rw [this]; omega

theorem rev_zero (j : Nat) : revTo 0 j = 0 := by
  induction j with
  | zero => rfl
  | succ j ih => simp only [revTo, ih]; simp

theorem rev_mod (n : Int) (i : Nat) : revTo (n % 2 ^ i) i = revTo n i := by
  have key : ∀ j, j ≤ i → revTo (n % 2 ^ i) j = revTo n j := by
    intro j
    induction j with
    | zero => intro _; rfl
    | succ j ih =>
      intro hj
      simp only [revTo]
      rw [ih (by omega)]
      have hp : (2 : Int) ^ i = 2 ^ j * (2 * 2 ^ (i - j - 1)) := by
        rw [← Int.mul_assoc, ← Int.pow_succ, ← Int.pow_add]; congr 1; omega
      have h0 : (0 : Int) < 2 ^ j := by have := pow_pos2 j; omega
      have e1 : n % 2 ^ i / 2 ^ j = n / 2 ^ j % (2 * 2 ^ (i - j - 1)) := by
        rw [hp]
        have h1 : n = 2 ^ j * (n / 2 ^ j) + n % 2 ^ j := (Int.mul_ediv_add_emod n (2 ^ j)).symm
        have h2 : n % (2 ^ j * (2 * 2 ^ (i - j - 1))) = 2 ^ j * (n / 2 ^ j % (2 * 2 ^ (i - j - 1))) + n % 2 ^ j := emod_mul' _ _ _ h0 (by have := pow_pos2 (i - j - 1); omega)
        rw [h2, Int.add_comm, Int.add_mul_ediv_left _ _ (by omega), Int.ediv_eq_zero_of_lt (Int.emod_nonneg _ (by omega)) (Int.emod_lt_of_pos _ h0)]
        omega
      rw [e1, Int.emod_emod_of_dvd _ ⟨_, rfl⟩]
  exact key i (Nat.le_refl _)

/-- the lowest bit comes to stand highest -/
theorem rev_low (m b : Int) (K : Nat) (hb : 0 ≤ b ∧ b < 2) : revTo (2 * m + b) (K + 1) = b * 2 ^ K + revTo m K := by
  induction K with
  | zero => simp [revTo]; omega
  | succ K ih =>
    rw [revTo, ih]
    simp only [revTo]
    have e : (2 * m + b) / 2 ^ (K + 1) = m / 2 ^ K := by
      have e2 : (2 * m + b) / 2 = m := by omega
      rw [Int.pow_succ, Int.mul_comm (2 ^ K) 2, ← Int.ediv_ediv_of_nonneg (by omega), e2]
    rw [e, Int.pow_succ]
    generalize (2 : Int) ^ K = p
    have : b * (p * 2) = 2 * (b * p) := by rw [← Int.mul_assoc, Int.mul_comm]
    rw [this]; omega

theorem rev_rev (n : Int) (K : Nat) : revTo (revTo n K) K = n % 2 ^ K := by
  induction K with
  | zero => simp [revTo, Int.emod_one]
  | succ K ih =>
    have h0 : revTo n (K + 1) = 2 * revTo n K + n / 2 ^ K % 2 := rfl
    rw [h0, rev_low _ _ _ (by omega), ih, Int.pow_succ]
    have h2 : n % (2 ^ K * 2) = 2 ^ K * (n / 2 ^ K % 2) + n % 2 ^ K := emod_mul' _ _ _ (by have := pow_pos2 K; omega) (by decide)
    rw [h2, Int.mul_comm]

theorem rev16 (n : Int) (h : 0 ≤ n ∧ n ≤ 65535) : revTo (revTo n 16) 16 = n := by
  rw [rev_rev]
  exact Int.emod_eq_of_lt h.1 (by simp; omega)

theorem rev16_inj (a b : Int) (ha : 0 ≤ a ∧ a ≤ 65535) (hb : 0 ≤ b ∧ b ≤ 65535) (h : revTo a 16 = revTo b 16) : a = b := by
  rw [← rev16 a ha, h, rev16 b hb]

/-- a bucket's number in a table of 2^i -/
theorem rev_bucket (k : Int) (i : Nat) (hi : i ≤ 16) : revTo (k % 2 ^ i) 16 = revTo k i * 2 ^ (16 - i) := by
  have e : (16 : Nat) = i + (16 - i) := by omega
  have h1 := rev_add (k % 2 ^ i) i (16 - i)
  rw [← e] at h1
  rw [h1, rev_mod, Int.ediv_eq_zero_of_lt (Int.emod_nonneg _ (by have := pow_pos2 i; omega)) (Int.emod_lt_of_pos _ (by have := pow_pos2 i; omega)), rev_zero]
  omega

theorem rev_key (k : Int) (i : Nat) (hi : i ≤ 16) : revTo k i * 2 ^ (16 - i) ≤ revTo k 16 ∧ revTo k 16 < (revTo k i + 1) * 2 ^ (16 - i) := by
  have e : (16 : Nat) = i + (16 - i) := by omega
  have h1 := rev_add k i (16 - i)
  rw [← e] at h1
  have h2 := revTo_bd (k / 2 ^ i) (16 - i)
  rw [h1, Int.add_mul]
  omega

/-- THE ORDER OF BUCKETS AND KEYS -/
theorem rev_splits (k b : Int) (i : Nat) (hi : i ≤ 16) :
    ¬ (2 * revTo k 16 + 1 ≤ 2 * revTo (k % 2 ^ i) 16) ∧ ¬ (2 * revTo (k % 2 ^ i) 16 < 2 * revTo (b % 2 ^ i) 16 ∧ 2 * revTo (b % 2 ^ i) 16 < 2 * revTo k 16 + 1) := by
  have hk := rev_key k i hi
  rw [rev_bucket k i hi, rev_bucket b i hi]
  have hp := pow_pos2 (16 - i)
  generalize revTo k i = x at *
  generalize revTo b i = y at *
  generalize (2 : Int) ^ (16 - i) = p at *
  refine ⟨by omega, fun ⟨h1, h2⟩ => ?_⟩
  have h3 : x * p < y * p := by omega
  have h4 : x < y := Int.lt_of_mul_lt_mul_right h3 (by omega)
  have h5 : (x + 1) * p ≤ y * p := Int.mul_le_mul_of_nonneg_right (by omega) (by omega)
  omega

theorem rev_twice (k : Int) (i : Nat) (hi : i ≤ 15) :
    2 * revTo (k % 2 ^ i) 16 ≤ 2 * revTo (k % 2 ^ (i + 1)) 16 ∧ 2 * revTo (k % 2 ^ (i + 1)) 16 < 2 * revTo k 16 + 1 := by
  have hk := rev_key k (i + 1) (by omega)
  rw [rev_bucket k i (by omega), rev_bucket k (i + 1) (by omega)]
  have e : 16 - i = (16 - (i + 1)) + 1 := by omega
  have h0 : revTo k (i + 1) = 2 * revTo k i + k / 2 ^ i % 2 := rfl
  rw [h0] at hk
  rw [e, Int.pow_succ, h0]
  clear h0 e
  have hp := pow_pos2 (16 - (i + 1))
  generalize revTo k i = x at *
  generalize (2 : Int) ^ (16 - (i + 1)) = p at *
  have hb : 0 ≤ k / 2 ^ i % 2 := by omega
  generalize k / 2 ^ i % 2 = t at *
  have h1 : (2 * x + t) * p = x * (p * 2) + t * p := by rw [Int.add_mul, Int.mul_comm 2 x, Int.mul_assoc, Int.mul_comm 2 p]
  have h2 : 0 ≤ t * p := Int.mul_nonneg hb (by omega)
  omega

end Go.Proofs.Ytkdcmppkfgdjmaa
