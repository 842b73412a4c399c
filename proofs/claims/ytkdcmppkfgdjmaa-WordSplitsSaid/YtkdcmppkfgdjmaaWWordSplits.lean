/-
  WORD: the walk of the law WordSplits.
-/
import Derived.Test.YtkdcmppkfgdjmaaWordD
import Derived.Test.YtkdcmppkfgdjmaaAfter
import Derived.Test.YtkdcmppkfgdjmaaRev
import Derived.Test.YtkdcmppkfgdjmaaTail
namespace Go.Proofs.Ytkdcmppkfgdjmaa
open Go.ChangeShapes Go.WideShapes Go.ChangeAt Go.RowKit

set_option maxHeartbeats 2000000 in
theorem walkWordSplits (k b i : Int) (w : World) (hk : 0 ≤ k ∧ k ≤ 65535) (hb : 0 ≤ b ∧ b ≤ 65535) (hi : 0 ≤ i ∧ i ≤ 255) :
    Calls Try.prog 8 #[.int .u16 k, .int .u16 b, .int .u8 i] w fun e w' => e = .returned (.bool true) ∧ Below w.heap.size w w' := by
  obtain ⟨t, ht⟩ : ∃ t : Nat, i % 17 = t := ⟨(i % 17).toNat, by omega⟩
  have ht2 : t ≤ 16 := by omega
  go_enter Try.func8, Try.ntmps8
  go_wp2_with fail
  refine (awake_any _).mono ?_
  rintro e w1 ⟨rfl, hb1⟩
  go_wp2_with fail
  go_loop [8, 9] (fun s n => ∃ m : Nat, m ≤ t ∧ s = .int .i64 (2 ^ m) ∧ n = .int .i64 m) (fun _ n => t - (intOf n).toNat)
  case atStart => exact ⟨0, Nat.zero_le _, rfl, rfl⟩
  case round =>
    obtain ⟨m, hm, rfl, rfl⟩ := hrel
    have hp : (2 : Int) ^ m ≤ 65536 := by
      have : (2 : Int) ^ m ≤ 2 ^ 16 := by exact_mod_cast Nat.pow_le_pow_right (n := 2) (by decide) (show m ≤ 16 by omega)
      exact this
    have hp1 := pow_pos2 m
    by_cases hlt : m < t
    · have hs := Lib.hid (show 2 * (2 : Int) ^ m = 2 ^ (m + 1) by rw [Int.pow_succ, Int.mul_comm])
      go_wp2_with fail
      rw [hs.out]
      go_round
      case rel => exact ⟨m + 1, by omega, rfl, by go_num⟩
      case measure => simp [intOf]; omega
    · obtain rfl : m = t := by omega
      have h1 := rev_splits k b m ht2
      have hr := revTo_bd k 16
      have ha := revTo_bd (k % 2 ^ m) 16
      have hc := revTo_bd (b % 2 ^ m) 16
      have hk1 := Int.emod_nonneg k (b := 2 ^ m) (by omega)
      have hk2 := Int.emod_lt_of_pos k (b := 2 ^ m) (by omega)
      have hb3 := Int.emod_nonneg b (b := 2 ^ m) (by omega)
      have hb4 := Int.emod_lt_of_pos b (b := 2 ^ m) (by omega)
      simp at hr ha hc
      obtain ⟨h1a, h1b⟩ := h1
      by_cases h16 : m = 16
      · subst h16
        have g1 : revTo (k % 65536) 16 ≤ revTo k 16 := by simp at h1a; omega
        simp only [show ((2 : Int) ^ 16) = 65536 by decide] at *
        clear hp hp1 hlt hm ht2
        by_cases hoth : 2 * revTo (k % 65536) 16 < 2 * revTo (b % 65536) 16
        all_goals
          go_wp2_with fail
          refine (dummy_any _ _ (by omega)).mono ?_
          rintro e w2 ⟨rfl, rfl⟩
          go_wp2_with fail
          refine (dummy_any _ _ (by omega)).mono ?_
          rintro e w2 ⟨rfl, rfl⟩
          go_wp2_with fail
          refine (real_any _ _ (by omega)).mono ?_
          rintro e w2 ⟨rfl, rfl⟩
          go_wp2_with fail
          refine (dummy_any _ _ (by omega)).mono ?_
          rintro e w2 ⟨rfl, rfl⟩
          go_wp2_with fail
          go_ret
          exact ⟨rfl, hb1⟩
      · have hq : (2 : Int) ^ m ≤ 32768 := by
          have : (2 : Int) ^ m ≤ 2 ^ 15 := by exact_mod_cast Nat.pow_le_pow_right (n := 2) (by decide) (show m ≤ 15 by omega)
          exact this
        have hq2 : ¬ 65536 < 2 * (2 : Int) ^ m := by omega
        have h2 : 2 * revTo (k % 2 ^ m) 16 ≤ 2 * revTo (k % (2 * 2 ^ m)) 16 ∧ 2 * revTo (k % (2 * 2 ^ m)) 16 < 2 * revTo k 16 + 1 := by
          have := rev_twice k m (by omega)
          rw [Int.pow_succ, Int.mul_comm (2 ^ m) 2] at this
          exact this
        have hk5 := Int.emod_nonneg k (b := 2 * 2 ^ m) (by omega)
        have hk6 := Int.emod_lt_of_pos k (b := 2 * 2 ^ m) (by omega)
        have hd := revTo_bd (k % (2 * 2 ^ m)) 16
        simp at hd
        obtain ⟨h2a, h2b⟩ := h2
        clear hlt hm
        by_cases hoth : 2 * revTo (k % 2 ^ m) 16 < 2 * revTo (b % 2 ^ m) 16
        all_goals
          go_wp2_with fail
          refine (dummy_any _ _ (by omega)).mono ?_
          rintro e w2 ⟨rfl, rfl⟩
          go_wp2_with fail
          refine (dummy_any _ _ (by omega)).mono ?_
          rintro e w2 ⟨rfl, rfl⟩
          go_wp2_with fail
          refine (real_any _ _ (by omega)).mono ?_
          rintro e w2 ⟨rfl, rfl⟩
          go_wp2_with fail
          refine (dummy_any _ _ (by omega)).mono ?_
          rintro e w2 ⟨rfl, rfl⟩
          go_wp2_with fail
          go_ret
          exact ⟨rfl, hb1⟩

end Go.Proofs.Ytkdcmppkfgdjmaa
