/-
  WORD: the walk of the law WordTwice.
-/
import Derived.Test.YtkdcmppkfgdjmaaWordD
import Derived.Test.YtkdcmppkfgdjmaaAfter
import Derived.Test.YtkdcmppkfgdjmaaRev
import Derived.Test.YtkdcmppkfgdjmaaTail
namespace Go.Proofs.Ytkdcmppkfgdjmaa
open Go.ChangeShapes Go.WideShapes Go.ChangeAt Go.RowKit

set_option maxHeartbeats 2000000 in
theorem walkWordTwice (k b : Int) (w : World) (hk : 0 ≤ k ∧ k ≤ 65535) (hb : 0 ≤ b ∧ b ≤ 65535) :
    Calls Try.prog 7 #[.int .u16 k, .int .u16 b] w fun e w' => e = .returned (.bool true) ∧ Below w.heap.size w w' := by
  have hp := revTo_bd k 16
  have hq := revTo_bd b 16
  simp at hp hq
  have E1 := Lib.hid (rev16 k hk)
  have e2 : (2 * revTo k 16 + 1) % 131072 / 2 = revTo k 16 := by omega
  have e3 : 2 * revTo b 16 % 131072 / 2 = revTo b 16 := by omega
  have E2 := Lib.hid (show revTo ((2 * revTo k 16 + 1) % 131072 / 2) 16 = k by rw [e2]; exact rev16 k hk)
  have E3 := Lib.hid (show revTo (2 * revTo b 16 % 131072 / 2) 16 = b by rw [e3]; exact rev16 b hb)
  have e4 : (2 * revTo k 16 + 1) % 2 = 1 := by omega
  have e5 : 2 * revTo b 16 % 2 = 0 := by omega
  have hinj := Lib.hid (rev16_inj k b hk hb)
  clear e2 e3
  go_enter Try.func7, Try.ntmps7
  go_wp2_with fail
  refine (awake_any _).mono ?_
  rintro e w1 ⟨rfl, hb1⟩
  go_wp2_with fail
  refine (real_any _ _ (by omega)).mono ?_
  rintro e w2 ⟨rfl, rfl⟩
  go_wp2_with fail
  refine (dummy_any _ _ (by omega)).mono ?_
  rintro e w2 ⟨rfl, rfl⟩
  go_wp2_with fail
  refine (rev_any _ _ (by omega)).mono ?_
  rintro e w2 ⟨rfl, rfl⟩
  go_wp2_with fail
  refine (rev_any _ _ (by omega)).mono ?_
  rintro e w2 ⟨rfl, rfl⟩
  rw [E1.out]
  go_wp2_with fail
  refine (key_any _ _ (by omega)).mono ?_
  rintro e w2 ⟨rfl, rfl⟩
  rw [E2.out]
  go_wp2_with fail
  refine (key_any _ _ (by omega)).mono ?_
  rintro e w2 ⟨rfl, rfl⟩
  rw [E3.out]
  go_wp2_with fail
  refine (real_any _ _ (by omega)).mono ?_
  rintro e w2 ⟨rfl, rfl⟩
  go_wp2_with fail
  refine (real_any _ _ (by omega)).mono ?_
  rintro e w2 ⟨rfl, rfl⟩
  by_cases hkb : k = b
  · subst hkb
    go_wp2_with fail
    refine (dummy_any _ _ (by omega)).mono ?_
    rintro e w2 ⟨rfl, rfl⟩
    go_wp2_with fail
    refine (dummy_any _ _ (by omega)).mono ?_
    rintro e w2 ⟨rfl, rfl⟩
    go_wp2_with fail
    go_ret
    exact ⟨rfl, hb1⟩
  · have n1 : (k == b) = false := by simpa using hkb
    have n2 : (revTo k 16 == revTo b 16) = false := by
      have : revTo k 16 ≠ revTo b 16 := fun h => hkb (hinj.out h)
      simpa using this
    have n3 : (2 * revTo k 16 + 1 == 2 * revTo b 16 + 1) = false := by
      have : revTo k 16 ≠ revTo b 16 := fun h => hkb (hinj.out h)
      simp; omega
    have n4 : (2 * revTo k 16 == 2 * revTo b 16) = false := by
      have : revTo k 16 ≠ revTo b 16 := fun h => hkb (hinj.out h)
      simp; omega
    clear hkb
    go_wp2_with fail
    refine (dummy_any _ _ (by omega)).mono ?_
    rintro e w2 ⟨rfl, rfl⟩
    go_wp2_with fail
    refine (dummy_any _ _ (by omega)).mono ?_
    rintro e w2 ⟨rfl, rfl⟩
    go_wp2_with fail
    go_ret
    exact ⟨rfl, hb1⟩

end Go.Proofs.Ytkdcmppkfgdjmaa
