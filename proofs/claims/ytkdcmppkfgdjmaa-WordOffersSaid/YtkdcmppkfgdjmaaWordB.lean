/-
  WORD: the contracts of package word's exported functions, over this seat's translation.
-/
import Derived.Test.YtkdcmppkfgdjmaaWord
import Derived.Deep.RegionWith
import Derived.StillTailTactics
namespace Go.Proofs.Ytkdcmppkfgdjmaa
open Go.ChangeShapes Go.WideShapes Go.ChangeAt Go.RowKit

set_option maxHeartbeats 400000 in
theorem pack_any (i c : Int) (m : Bool) (w : World) (hi : -9223372036854775808 ≤ i ∧ i ≤ 9223372036854775807) (hc : -9223372036854775808 ≤ c ∧ c ≤ 9223372036854775807) :
    Calls Try.prog 10 #[.agg #[.int .i64 i, .bool m, .int .i64 c]] w fun e w' => e = .returned (.int .i64 (i % 65536 + (if m then 65536 else 0) + c % 268435456 * 131072)) ∧ Below w.heap.size w w' := by
  cases m
  · go_enter Try.func10, Try.ntmps10
    go_wp2_with fail
    refine (lay3 i 0 c 16 1 28 _ _ _ (by simp [go_sem]) (by omega) hi (by omega) hc).mono ?_
    rintro e w' ⟨rfl, hb⟩
    go_wp2_with fail
    go_ret
    exact ⟨by simp, ((Below.refl w.heap.size w).alloc (Nat.le_refl _) _).trans (hb.mono (by simp [go_sem]))⟩
  · go_enter Try.func10, Try.ntmps10
    go_wp2_with fail
    refine (lay3 i 1 c 16 1 28 _ _ _ (by simp [go_sem]) (by omega) hi (by omega) hc).mono ?_
    rintro e w' ⟨rfl, hb⟩
    go_wp2_with fail
    go_ret
    exact ⟨by simp, ((Below.refl w.heap.size w).alloc (Nat.le_refl _) _).trans (hb.mono (by simp [go_sem]))⟩

set_option maxHeartbeats 400000 in
theorem offer_any (v k c : Int) (w : World) (hv : -9223372036854775808 ≤ v ∧ v ≤ 9223372036854775807) (hk : -9223372036854775808 ≤ k ∧ k ≤ 9223372036854775807) (hc : -9223372036854775808 ≤ c ∧ c ≤ 9223372036854775807) :
    Calls Try.prog 18 #[.int .i64 v, .int .i64 k, .int .i64 c] w fun e w' => e = .returned (.int .i64 (v % 4294967296 + k % 4 * 4294967296 + c % 268435456 * 17179869184)) ∧ Below w.heap.size w w' := by
  go_enter Try.func18, Try.ntmps18
  go_wp2_with fail
  refine (lay3 v k c 32 2 28 _ _ _ rfl (by omega) hv hk hc).mono ?_
  rintro e w' ⟨rfl, hb⟩
  go_wp2_with fail
  go_ret
  exact ⟨by simp, hb⟩


/-- the first k bits of n, turned round -/
def revTo (n : Int) : Nat → Int
  | 0 => 0
  | k + 1 => 2 * revTo n k + n / 2 ^ k % 2
theorem revTo_bd (n : Int) (k : Nat) : 0 ≤ revTo n k ∧ revTo n k < 2 ^ k := by
  induction k with
  | zero => simp [revTo]
  | succ k ih =>
    simp only [revTo]
    rw [Int.pow_succ]
    generalize n / 2 ^ k = x at *
    generalize (2 : Int) ^ k = p at *
    omega

set_option maxHeartbeats 400000 in
theorem rev_any (n : Int) (w : World) (hn : -9223372036854775808 ≤ n ∧ n ≤ 9223372036854775807) :
    Calls Try.prog 22 #[.int .i64 n] w fun e w' => e = .returned (.int .i64 (revTo n 16)) ∧ w = w' := by
  go_enter Try.func22, Try.ntmps22
  go_wp2_with fail
  go_loop [3, 5] (fun m i => ∃ k : Nat, k ≤ 16 ∧ m = .int .i64 (revTo n k) ∧ i = .int .i64 k) (fun _ i => 16 - (intOf i).toNat)
  case atStart => exact ⟨0, Nat.zero_le _, rfl, rfl⟩
  case round =>
    obtain ⟨k, hk, rfl, rfl⟩ := hrel
    by_cases hlt : k < 16
    · have hb := revTo_bd n k
      have hp : (2 : Int) ^ k ≤ 65536 := by
        have : (2 : Int) ^ k ≤ 2 ^ 16 := by exact_mod_cast Nat.pow_le_pow_right (n := 2) (by decide) (show k ≤ 16 by omega)
        exact this
      have hm0 : bits .and .i64 (n / 2 ^ k) 1 = n / 2 ^ k % 2 := and_mask (n / 2 ^ k) 1 (by omega)
      have hbit : 0 ≤ n / 2 ^ k % 2 ∧ n / 2 ^ k % 2 < 2 := by omega
      have hj0 := or_join' (n / 2 ^ k % 2) (revTo n k) 1 hbit.1 hbit.2 hb.1 (by simp; omega)
      have hj : bits .or .i64 (revTo n k * 2) (n / 2 ^ k % 2) = revTo n (k + 1) := by simp only [revTo]; simp at hj0; rw [hj0]; omega
      have HM := Lib.hid hm0
      have HJ := Lib.hid hj
      have hr : revTo n k < 65536 := by omega
      clear hm0 hj hj0 hp hbit
      go_wp2_with fail
      rw [HM.out, HJ.out]
      go_round
      case rel => exact ⟨k + 1, by omega, rfl, by go_num⟩
      case measure => simp [intOf]; omega
    · obtain rfl : k = 16 := by omega
      go_wp2_with fail
      go_ret
      exact ⟨rfl, rfl⟩

set_option maxHeartbeats 400000 in
theorem real_any (n : Int) (w : World) (hn : -9223372036854775808 ≤ n ∧ n ≤ 9223372036854775807) :
    Calls Try.prog 20 #[.int .i64 n] w fun e w' => e = .returned (.int .i64 (2 * revTo n 16 + 1)) ∧ w = w' := by
  have hb := revTo_bd n 16
  go_enter Try.func20, Try.ntmps20
  go_wp2_with fail
  refine (rev_any _ _ hn).mono ?_
  rintro e w' ⟨rfl, rfl⟩
  go_wp2_with fail
  go_ret
  exact ⟨rfl, rfl⟩

set_option maxHeartbeats 400000 in
theorem dummy_any (n : Int) (w : World) (hn : -9223372036854775808 ≤ n ∧ n ≤ 9223372036854775807) :
    Calls Try.prog 21 #[.int .i64 n] w fun e w' => e = .returned (.int .i64 (2 * revTo n 16)) ∧ w = w' := by
  have hb := revTo_bd n 16
  go_enter Try.func21, Try.ntmps21
  go_wp2_with fail
  refine (rev_any _ _ hn).mono ?_
  rintro e w' ⟨rfl, rfl⟩
  go_wp2_with fail
  go_ret
  exact ⟨rfl, rfl⟩

set_option maxHeartbeats 400000 in
theorem key_any (n : Int) (w : World) (hn : -9223372036854775808 ≤ n ∧ n ≤ 9223372036854775807) :
    Calls Try.prog 23 #[.int .i64 n] w fun e w' => e = .returned (.int .i64 (revTo (n % 131072 / 2) 16)) ∧ w = w' := by
  go_enter Try.func23, Try.ntmps23
  go_wp2_with fail
  refine (low_any _ 17 (by omega) hn.1 hn.2 _).mono ?_
  rintro e w' ⟨rfl, rfl⟩
  have e17 : n % 2 ^ 17 = n % 131072 := by simp
  rw [e17]
  go_wp2_with fail
  refine (rev_any _ _ (by omega)).mono ?_
  rintro e w' ⟨rfl, rfl⟩
  go_wp2_with fail
  go_ret
  exact ⟨rfl, rfl⟩


set_option maxHeartbeats 400000 in
theorem of_any (n : Int) (w : World) (hn : -9223372036854775808 ≤ n ∧ n ≤ 9223372036854775807) :
    Calls Try.prog 12 #[.int .i64 n] w fun e w' => e = .returned (.agg #[.int .i64 (n % 65536), .bool (n / 65536 % 2 == 1), .int .i64 (n / 131072 % 268435456)]) ∧ Below w.heap.size w w' := by
  go_enter Try.func12, Try.ntmps12
  go_wp2_with fail
  refine (part_nil _ 16 (by omega) hn.1 hn.2 _).mono ?_
  rintro e w' ⟨rfl, rfl⟩
  go_wp2_with fail
  refine (part1 _ 1 16 _ _ _ (by simp [go_sem]) (by omega) (by omega) hn).mono ?_
  rintro e w' ⟨rfl, rfl⟩
  go_wp2_with fail
  refine (part2 _ 28 16 1 _ _ _ (by simp [go_sem]) (by omega) (by omega) (by omega) hn).mono ?_
  rintro e w' ⟨rfl, rfl⟩
  go_wp2_with fail
  refine bodyPost_ret (v := .agg #[.int .i64 (n % 65536), .bool (n / 65536 % 2 == 1), .int .i64 (n / 131072 % 268435456)]) (by simp [results, Try.results12, go_sem]) rfl ⟨rfl, ?_⟩
  exact (((Below.refl _ _).alloc (Nat.le_refl _) _).alloc (by simp [go_sem]) _).alloc (by simp [go_sem]; omega) _

set_option maxHeartbeats 400000 in
theorem offered_any (n : Int) (w : World) (hn : -9223372036854775808 ≤ n ∧ n ≤ 9223372036854775807) :
    Calls Try.prog 16 #[.int .i64 n] w fun e w' => e = .returned (.tuple #[.int .i64 (n % 4294967296), .int .i64 (n / 4294967296 % 4), .int .i64 (n / 17179869184 % 268435456)]) ∧ Below w.heap.size w w' := by
  go_enter Try.func16, Try.ntmps16
  go_wp2_with fail
  refine (part_nil _ 32 (by omega) hn.1 hn.2 _).mono ?_
  rintro e w' ⟨rfl, rfl⟩
  go_wp2_with fail
  refine (part1 _ 2 32 _ _ _ (by simp [go_sem]) (by omega) (by omega) hn).mono ?_
  rintro e w' ⟨rfl, rfl⟩
  go_wp2_with fail
  refine (part2 _ 28 32 2 _ _ _ (by simp [go_sem]) (by omega) (by omega) (by omega) hn).mono ?_
  rintro e w' ⟨rfl, rfl⟩
  go_wp2_with fail
  go_ret3
  exact ⟨rfl, ((Below.refl _ _).alloc (Nat.le_refl _) _).alloc (by simp [go_sem]) _⟩

end Go.Proofs.Ytkdcmppkfgdjmaa
