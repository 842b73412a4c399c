/-
  WORD: the contract of Turn.
-/
import Derived.Test.YtkdcmppkfgdjmaaWordB
import Derived.Deep.QuietTactic
import Derived.WalkSmall
import Derived.BigQuiet
namespace Go.Proofs.Ytkdcmppkfgdjmaa
open Go.ChangeShapes Go.WideShapes Go.ChangeAt Go.RowKit

theorem low_int (n b : Int) (hb : 0 ≤ b ∧ b ≤ 62) (hn : -9223372036854775808 ≤ n ∧ n ≤ 9223372036854775807) (w : World) :
    Calls Try.prog 27 #[.int .i64 n, .int .i64 b] w fun e w' => e = .returned (.int .i64 (n % 2 ^ b.toNat)) ∧ w' = w := by
  obtain ⟨k, rfl⟩ := Int.eq_ofNat_of_zero_le hb.1
  exact (low_any n k (by omega) hn.1 hn.2 w).mono fun _ _ h => ⟨h.1, h.2.symm⟩

set_option maxHeartbeats 400000 in
theorem turn_any (i c x : Int) (m : Bool) (w : World) (hc : -9223372036854775808 ≤ c ∧ c ≤ 9223372036854775807) (hx : -9223372036854775808 ≤ x ∧ x ≤ 9223372036854775807) :
    Calls Try.prog 14 #[.agg #[.int .i64 i, .bool m, .int .i64 c], .int .i64 x] w fun e w' => e = .returned (.agg #[.int .i64 (x % 65536), .bool false, .int .i64 ((c + 1) % 268435456)]) ∧ Below w.heap.size w w' := by
  go_enter Try.func14, Try.ntmps14
  go_wp2_with fail
  have hcw : -9223372036854775808 ≤ wrap64 (c + 1) ∧ wrap64 (c + 1) ≤ 9223372036854775807 := by unfold wrap64; omega
  refine wp_region_still_tail 7 (by kernel_rfl) (by kernel_rfl) ?_
  simp only [List.take_succ_cons, List.take_zero, List.drop_succ_cons, List.drop_zero]
  change wpStill _ _ (World.drew _) _ _ _
  have hcw2 : -9223372036854775808 ≤ IntKind.i64.wrap (c + 1) ∧ IntKind.i64.wrap (c + 1) ≤ 9223372036854775807 := by rw [IntKind.wrap_i64]; omega
  still_step
  refine wpStill_step (fun K hK => ?_)
  go_simp
  refine ⟨_, low_int _ _ (by omega) hx _, hK _ ?_⟩
  clear hK K
  still_step
  still_step
  still_step
  refine wpStill_step (fun K hK => ?_)
  go_simp
  refine ⟨_, low_int _ _ (by omega) hcw2 _, hK _ ?_⟩
  clear hK K
  still_step
  refine wpStill_nil ?_
  change wpList _ _ _ _ _ (World.drew _)
  go_wp2
  have hwr : wrap64 (c + 1) % 268435456 = (c + 1) % 268435456 := by unfold wrap64; omega
  rw [hwr]
  refine bodyPost_ret (v := .agg #[.int .i64 (x % 65536), .bool false, .int .i64 ((c + 1) % 268435456)]) (by simp [results, Try.results14, go_sem]) rfl ⟨rfl, ?_⟩
  exact (((Below.refl _ _).alloc (Nat.le_refl _) _).alloc (by simp [go_sem]) _).drew

theorem ret_int {k : IntKind} {a b : Int} (h : a = b) : Ending.returned (.int k a) = .returned (.int k b) := by rw [h]
theorem ret_agg3 {a a' c c' : Int} {m m' : Bool} (h1 : a = a') (h2 : m = m') (h3 : c = c') : Ending.returned (.agg #[.int .i64 a, .bool m, .int .i64 c]) = .returned (.agg #[.int .i64 a', .bool m', .int .i64 c']) := by rw [h1, h2, h3]

set_option maxHeartbeats 400000 in
theorem mod_any (m n : Int) (w : World) (hn : 1 ≤ n ∧ n ≤ 4611686018427387904) (hm : -9223372036854775808 ≤ m ∧ m ≤ 9223372036854775807) :
    Calls Try.prog 25 #[.int .i64 m, .int .i64 n] w fun e w' => e = .returned (.int .i64 (m % n)) ∧ w' = w := by
  by_cases h0 : m.tmod n < 0
  · have e1 := Lib.hid (tmod_neg m n hn.1 h0)
    have hb := Int.emod_nonneg m (b := n) (by omega)
    have hb2 := Int.emod_lt_of_pos m (b := n) (by omega)
    go_enter Try.func25, Try.ntmps25
    go_wp2
    go_ret
    exact ⟨ret_int (by rw [e1.out, wrap64_small _ (by omega) (by omega)]), rfl⟩
  · have e1 := Lib.hid (tmod_pos m n hn.1 (by omega))
    have h1 : 0 ≤ m.tmod n := by omega
    go_enter Try.func25, Try.ntmps25
    go_wp2
    go_ret
    exact ⟨ret_int e1.out, rfl⟩

set_option maxHeartbeats 400000 in
theorem rpack_any (i c : Int) (m : Bool) (w : World) (hi : -9223372036854775808 ≤ i ∧ i ≤ 9223372036854775807) (hc : -9223372036854775808 ≤ c ∧ c ≤ 9223372036854775807) :
    Calls Try.prog 11 #[.agg #[.int .i64 i, .bool m, .int .i64 c]] w fun e w' => e = .returned (.int .i64 (i % 65536 + (if m then 65536 else 0) + c % 268435456 * 131072)) ∧ Below w.heap.size w w' := by
  have g1 : 0 ≤ i % 65536 := by omega
  have g2 : i % 65536 < 65536 := by omega
  have g3 : 0 ≤ c % 268435456 := by omega
  have g4 : c % 268435456 < 268435456 := by omega
  cases m
  all_goals
    go_enter Try.func11, Try.ntmps11
    go_wp2_with fail
    go_quiet ((go_at_call 25; exact Calls.quiet_of_same (mod_any _ _ _ (by omega) (by omega))))
    go_wp2_with fail
    go_ret
    exact ⟨ret_int (by first | (simp; omega) | omega), below_drewN ((Below.refl _ _).alloc (Nat.le_refl _) _) _⟩

set_option maxHeartbeats 400000 in
theorem rof_any (n : Int) (w : World) (hn : -9223372036854775808 ≤ n ∧ n ≤ 9223372036854775807) :
    Calls Try.prog 13 #[.int .i64 n] w fun e w' => e = .returned (.agg #[.int .i64 (n % 65536), .bool (n / 65536 % 2 == 1), .int .i64 (n / 131072 % 268435456)]) ∧ Below w.heap.size w w' := by
  have g1 : 0 ≤ n % 35184372088832 := by omega
  have g2 : n % 35184372088832 < 35184372088832 := by omega
  go_enter Try.func13, Try.ntmps13
  go_wp2_with fail
  refine (mod_any _ _ _ (by omega) (by omega)).mono ?_
  rintro e w' ⟨rfl, rfl⟩
  go_wp2_with fail
  have e1 : n % 35184372088832 / 65536 % 2 = n / 65536 % 2 := by omega
  have e2 : n % 35184372088832 / 131072 = n / 131072 % 268435456 := by omega
  rw [e1, e2]
  refine bodyPost_ret (v := .agg #[.int .i64 (n % 65536), .bool (n / 65536 % 2 == 1), .int .i64 (n / 131072 % 268435456)]) (by simp [results, Try.results13, go_sem]) rfl ⟨rfl, ?_⟩
  exact (Below.refl _ _).alloc (Nat.le_refl _) _

set_option maxHeartbeats 400000 in
theorem rturn_any (i c x : Int) (m : Bool) (w : World) (hc : -9223372036854775808 ≤ c ∧ c ≤ 9223372036854775807) (hx : -9223372036854775808 ≤ x ∧ x ≤ 9223372036854775807) :
    Calls Try.prog 15 #[.agg #[.int .i64 i, .bool m, .int .i64 c], .int .i64 x] w fun e w' => e = .returned (.agg #[.int .i64 (x % 65536), .bool false, .int .i64 ((c + 1) % 268435456)]) ∧ Below w.heap.size w w' := by
  have g3 : 0 ≤ c % 268435456 := by omega
  have g4 : c % 268435456 < 268435456 := by omega
  have hcw2 : -9223372036854775808 ≤ IntKind.i64.wrap (c % 268435456 + 1) ∧ IntKind.i64.wrap (c % 268435456 + 1) ≤ 9223372036854775807 := by rw [IntKind.wrap_i64]; omega
  go_enter Try.func15, Try.ntmps15
  go_wp2_with fail
  refine wp_region_still_tail 8 (by kernel_rfl) (by kernel_rfl) ?_
  simp only [List.take_succ_cons, List.take_zero, List.drop_succ_cons, List.drop_zero]
  change wpStill _ _ (World.drew _) _ _ _
  still_step
  refine wpStill_step (fun K hK => ?_)
  go_simp
  refine ⟨_, mod_any _ _ _ (by omega) hx, hK _ ?_⟩
  clear hK K
  still_step
  still_step
  refine wpStill_step (fun K hK => ?_)
  go_simp
  refine ⟨_, mod_any _ _ _ (by omega) hc, hK _ ?_⟩
  clear hK K
  still_step
  refine wpStill_step (fun K hK => ?_)
  go_simp
  refine ⟨_, mod_any _ _ _ (by omega) hcw2, hK _ ?_⟩
  clear hK K
  still_step
  refine wpStill_nil ?_
  change wpList _ _ _ _ _ (World.drew _)
  go_wp2
  have hwr : (c % 268435456 + 1) % 268435456 = (c + 1) % 268435456 := by omega
  rw [hwr]
  refine bodyPost_ret (v := .agg #[.int .i64 (x % 65536), .bool false, .int .i64 ((c + 1) % 268435456)]) (by simp [results, Try.results15, go_sem]) rfl ⟨rfl, ?_⟩
  exact (((Below.refl _ _).alloc (Nat.le_refl _) _).alloc (by simp [go_sem]) _).drew

set_option maxHeartbeats 400000 in
theorem rofferedd_any (n : Int) (w : World) (hn : -9223372036854775808 ≤ n ∧ n ≤ 9223372036854775807) :
    Calls Try.prog 17 #[.int .i64 n] w fun e w' => e = .returned (.tuple #[.int .i64 (n % 4294967296), .int .i64 (n / 4294967296 % 4), .int .i64 (n / 17179869184 % 268435456)]) ∧ w' = w := by
  have g1 : 0 ≤ n % 4611686018427387904 := by omega
  have g2 : n % 4611686018427387904 < 4611686018427387904 := by omega
  go_enter Try.func17, Try.ntmps17
  go_wp2_with fail
  refine (mod_any _ _ _ (by omega) (by omega)).mono ?_
  rintro e w' ⟨rfl, rfl⟩
  go_wp2_with fail
  go_ret3
  have e1 : n % 4611686018427387904 % 4294967296 = n % 4294967296 := by omega
  have e2 : n % 4611686018427387904 / 4294967296 % 4 = n / 4294967296 % 4 := by omega
  have e3 : n % 4611686018427387904 / 17179869184 = n / 17179869184 % 268435456 := by omega
  exact ⟨by rw [← e1, ← e2, ← e3]; rfl, rfl⟩

set_option maxHeartbeats 400000 in
theorem roffer_any (v k c : Int) (w : World) (hv : -9223372036854775808 ≤ v ∧ v ≤ 9223372036854775807) (hk : -9223372036854775808 ≤ k ∧ k ≤ 9223372036854775807) (hc : -9223372036854775808 ≤ c ∧ c ≤ 9223372036854775807) :
    Calls Try.prog 19 #[.int .i64 v, .int .i64 k, .int .i64 c] w fun e w' => e = .returned (.int .i64 (v % 4294967296 + k % 4 * 4294967296 + c % 268435456 * 17179869184)) ∧ w' = w := by
  have g1 : 0 ≤ v % 4294967296 := by omega
  have g2 : v % 4294967296 < 4294967296 := by omega
  have g3 : 0 ≤ k % 4 := by omega
  have g4 : k % 4 < 4 := by omega
  have g5 : 0 ≤ c % 268435456 := by omega
  have g6 : c % 268435456 < 268435456 := by omega
  go_enter Try.func19, Try.ntmps19
  go_wp2_with fail
  refine (mod_any _ _ _ (by omega) (by omega)).mono ?_
  rintro e w' ⟨rfl, rfl⟩
  go_wp2_with fail
  refine (mod_any _ _ _ (by omega) (by omega)).mono ?_
  rintro e w' ⟨rfl, rfl⟩
  go_wp2_with fail
  refine (mod_any _ _ _ (by omega) (by omega)).mono ?_
  rintro e w' ⟨rfl, rfl⟩
  go_wp2_with fail
  go_ret
  exact ⟨ret_int (by omega), rfl⟩

end Go.Proofs.Ytkdcmppkfgdjmaa
