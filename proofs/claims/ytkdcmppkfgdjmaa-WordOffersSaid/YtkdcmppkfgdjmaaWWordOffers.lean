/-
  WORD: the walk of the law WordOffers.
-/
import Derived.Test.YtkdcmppkfgdjmaaWordD
import Derived.Test.YtkdcmppkfgdjmaaAfter
namespace Go.Proofs.Ytkdcmppkfgdjmaa
open Go.ChangeShapes Go.WideShapes Go.ChangeAt Go.RowKit

set_option maxHeartbeats 2000000 in
theorem walkWordOffers (v k c n : Int) (w : World) (hv : -9223372036854775808 ≤ v ∧ v ≤ 9223372036854775807) (hk : -9223372036854775808 ≤ k ∧ k ≤ 9223372036854775807)
    (hc : -9223372036854775808 ≤ c ∧ c ≤ 9223372036854775807) (hn : -9223372036854775808 ≤ n ∧ n ≤ 9223372036854775807) :
    Calls Try.prog 4 #[.int .i64 v, .int .i64 k, .int .i64 c, .int .i64 n] w fun e w' => e = .returned (.bool true) ∧ Below w.heap.size w w' := by
  have f1 : (v % 4294967296 + k % 4 * 4294967296 + c % 268435456 * 17179869184) % 4294967296 = v % 4294967296 := by omega
  have f2 : (v % 4294967296 + k % 4 * 4294967296 + c % 268435456 * 17179869184) / 4294967296 % 4 = k % 4 := by omega
  have f3 : (v % 4294967296 + k % 4 * 4294967296 + c % 268435456 * 17179869184) / 17179869184 % 268435456 = c % 268435456 := by omega
  have f4 : ¬ (n < 0 ∨ 4611686018427387904 ≤ n) → n % 4294967296 + n / 4294967296 % 4 * 4294967296 + n / 17179869184 % 268435456 * 17179869184 = n := by omega
  have F1 := Lib.hid f1
  have F2 := Lib.hid f2
  have F3 := Lib.hid f3
  have F4 := Lib.hid f4
  clear f1 f2 f3 f4
  go_enter Try.func4, Try.ntmps4
  go_wp2_with fail
  refine (awake_any _).mono ?_
  rintro e w1 ⟨rfl, hb1⟩
  go_wp2_with fail
  refine (offered_any _ _ hn).mono ?_
  rintro e w2 ⟨rfl, hb2⟩
  go_wp2_with fail
  refine (rofferedd_any _ _ hn).mono ?_
  rintro e w2 ⟨rfl, rfl⟩
  go_wp2_with fail
  refine (offer_any _ _ _ _ hv hk hc).mono ?_
  rintro e w3 ⟨rfl, hb3⟩
  go_wp2_with fail
  refine (offered_any _ _ (by omega)).mono ?_
  rintro e w4 ⟨rfl, hb4⟩
  rw [F1.out, F2.out, F3.out]
  go_wp2_with fail
  refine (offer_any _ _ _ _ hv hk hc).mono ?_
  rintro e w5 ⟨rfl, hb5⟩
  go_wp2_with fail
  refine (roffer_any _ _ _ _ hv hk hc).mono ?_
  rintro e w5 ⟨rfl, rfl⟩
  go_wp2_with fail
  refine (offer_any _ _ _ _ (by omega) (by omega) (by omega)).mono ?_
  rintro e w6 ⟨rfl, hb6⟩
  go_wp2_with fail
  refine (offer_any _ _ _ _ hv hk hc).mono ?_
  rintro e w7 ⟨rfl, hb7⟩
  have hbel := below_trans hb1 (below_trans hb2 (below_trans hb3 (below_trans hb4 (below_trans hb5 (below_trans hb6 hb7)))))
  by_cases g0 : n < 0
  · go_wp2_with fail
    go_ret
    exact ⟨rfl, hbel⟩
  by_cases g1 : 4611686018427387904 ≤ n
  · go_wp2_with fail
    go_ret
    exact ⟨rfl, hbel⟩
  · have f4 := F4.out (by omega)
    go_wp2_with fail
    refine (offer_any _ _ _ _ (by omega) (by omega) (by omega)).mono ?_
    rintro e w8 ⟨rfl, hb8⟩
    go_wp2_with fail
    go_ret
    exact ⟨rfl, below_trans hbel hb8⟩

end Go.Proofs.Ytkdcmppkfgdjmaa
