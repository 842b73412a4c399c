/-
  WORD: the walk of the law WordBack.
-/
import Derived.Test.YtkdcmppkfgdjmaaWordS
import Derived.Test.YtkdcmppkfgdjmaaAfter
import Derived.Test.YtkdcmppkfgdjmaaTail
namespace Go.Proofs.Ytkdcmppkfgdjmaa
open Go.ChangeShapes Go.WideShapes Go.ChangeAt Go.RowKit

set_option maxHeartbeats 2000000 in
theorem walkWordBack (i : Int) (m : Bool) (c k : Int) (o : Bool) (d n : Int) (w : World) (hi : 0 ≤ i ∧ i ≤ 65535) (hc : 0 ≤ c ∧ c ≤ 4294967295) (hk : 0 ≤ k ∧ k ≤ 65535) (hd : 0 ≤ d ∧ d ≤ 4294967295)
    (hn : 0 ≤ n ∧ n ≤ 18446744073709551615) :
    Calls Try.prog 5 #[.int .u16 i, .bool m, .int .u32 c, .int .u16 k, .bool o, .int .u32 d, .int .u64 n] w fun e w' => e = .returned (.bool true) ∧ Below w.heap.size w w' := by
  obtain ⟨p, hp⟩ : ∃ p, c % 268435456 = p := ⟨_, rfl⟩
  obtain ⟨q, hq⟩ : ∃ q, d % 268435456 = q := ⟨_, rfl⟩
  obtain ⟨x, hx⟩ : ∃ x, n % 35184372088832 = x := ⟨_, rfl⟩
  have hp2 : 0 ≤ p ∧ p ≤ 268435455 := by omega
  have hq2 : 0 ≤ q ∧ q ≤ 268435455 := by omega
  have hx2 : 0 ≤ x ∧ x < 35184372088832 := by omega
  have hinj := Lib.hid (packed_inj i k p q m o hi hp2 hk hq2)
  go_enter Try.func5, Try.ntmps5
  go_wp2_with fail
  refine (awake_any _).mono ?_
  rintro e w1 ⟨rfl, hb1⟩
  go_wp2_with fail
  obtain ⟨W, hW⟩ : ∃ W, W = (w1.alloc (Obj.cells #[Value.int IntKind.i64 i, Value.bool m, Value.int IntKind.i64 p] 23)).alloc (Obj.cells #[Value.int IntKind.i64 k, Value.bool o, Value.int IntKind.i64 q] 23) := ⟨_, rfl⟩
  have hbW : Below w.heap.size w W := by rw [hW]; exact (hb1.alloc hb1.size _).alloc (by have := hb1.size; simp [go_sem]; omega) _
  have s1 : w1.heap.size < W.heap.size := by rw [hW]; simp [go_sem]
  have s2 : w1.heap.size + 1 < W.heap.size := by rw [hW]; simp [go_sem]
  have a0 : ∀ y : After W, y.w.cell? ⟨w1.heap.size, 0, none⟩ = some (.int .i64 i) := fun y => by rw [y.cell s1, hW]; simp [go_sem]
  have a1 : ∀ y : After W, y.w.cell? ⟨w1.heap.size, 1, none⟩ = some (.bool m) := fun y => by rw [y.cell s1, hW]; simp [go_sem]
  have a2 : ∀ y : After W, y.w.cell? ⟨w1.heap.size, 2, none⟩ = some (.int .i64 p) := fun y => by rw [y.cell s1, hW]; simp [go_sem]
  have b0 : ∀ y : After W, y.w.cell? ⟨w1.heap.size + 1, 0, none⟩ = some (.int .i64 k) := fun y => by rw [y.cell s2, hW]; simp [go_sem]
  have b1 : ∀ y : After W, y.w.cell? ⟨w1.heap.size + 1, 1, none⟩ = some (.bool o) := fun y => by rw [y.cell s2, hW]; simp [go_sem]
  have b2 : ∀ y : After W, y.w.cell? ⟨w1.heap.size + 1, 2, none⟩ = some (.int .i64 q) := fun y => by rw [y.cell s2, hW]; simp [go_sem]
  rw [← hW]
  clear hW hp hq hx s1 s2 hc hd hn
  by_cases h : i = k ∧ m = o ∧ p = q
  · obtain ⟨rfl, rfl, rfl⟩ := h
    clear hinj
    refine wp_region_after (by kernel_rfl) (by kernel_rfl) ?_
    repeat (go_big_quiet_step (first
      | (go_at_call_of 10 x; exact calls_after (pack_of x _ hx2))
      | (go_at_call 10; exact calls_after (pack_small _ _ _ _ hi hp2))
      | (go_at_call_of 12 x; exact calls_after (of_any x _ (by omega)))
      | (go_at_call 12; exact calls_after (of_small _ _ _ _ hi hp2))))
    refine wpQuiet_nil ?_
    rintro _ ⟨y, rfl⟩
    go_wp2_with fail
    go_ret
    exact ⟨rfl, hbW.trans (y.bel.mono hbW.size)⟩
  · have n1 : (packed i m p == packed k o q) = false := by
      rw [beq_eq_false_iff_ne]; exact fun e => h (hinj.out e)
    clear hinj
    by_cases h1 : i = k
    · subst h1
      by_cases h2 : m = o
      · subst h2
        have n2 : (p == q) = false := by rw [beq_eq_false_iff_ne]; exact fun e => h ⟨rfl, rfl, e⟩
        clear h
        refine wp_region_after (by kernel_rfl) (by kernel_rfl) ?_
        repeat (go_big_quiet_step (first
          | (go_at_call_of 10 x; exact calls_after (pack_of x _ hx2))
          | (go_at_call_of 10 q; exact calls_after (pack_small _ _ _ _ hk hq2))
          | (go_at_call 10; exact calls_after (pack_small _ _ _ _ hi hp2))
          | (go_at_call_of 12 x; exact calls_after (of_any x _ (by omega)))
          | (go_at_call 12; exact calls_after (of_small _ _ _ _ hi hp2))))
        refine wpQuiet_nil ?_
        rintro _ ⟨y, rfl⟩
        go_wp2_with fail
        go_ret
        exact ⟨rfl, hbW.trans (y.bel.mono hbW.size)⟩
      · have n2 : (m == o) = false := by rw [beq_eq_false_iff_ne]; exact h2
        clear h h2
        refine wp_region_after (by kernel_rfl) (by kernel_rfl) ?_
        repeat (go_big_quiet_step (first
          | (go_at_call_of 10 x; exact calls_after (pack_of x _ hx2))
          | (go_at_call_of 10 q; exact calls_after (pack_small _ _ _ _ hk hq2))
          | (go_at_call 10; exact calls_after (pack_small _ _ _ _ hi hp2))
          | (go_at_call_of 12 x; exact calls_after (of_any x _ (by omega)))
          | (go_at_call 12; exact calls_after (of_small _ _ _ _ hi hp2))))
        refine wpQuiet_nil ?_
        rintro _ ⟨y, rfl⟩
        go_wp2_with fail
        go_ret
        exact ⟨rfl, hbW.trans (y.bel.mono hbW.size)⟩
    · have n2 : (i == k) = false := by rw [beq_eq_false_iff_ne]; exact h1
      clear h h1
      refine wp_region_after (by kernel_rfl) (by kernel_rfl) ?_
      repeat (go_big_quiet_step (first
        | (go_at_call_of 10 x; exact calls_after (pack_of x _ hx2))
        | (go_at_call_of 10 q; exact calls_after (pack_small _ _ _ _ hk hq2))
        | (go_at_call 10; exact calls_after (pack_small _ _ _ _ hi hp2))
        | (go_at_call_of 12 x; exact calls_after (of_any x _ (by omega)))
        | (go_at_call 12; exact calls_after (of_small _ _ _ _ hi hp2))))
      refine wpQuiet_nil ?_
      rintro _ ⟨y, rfl⟩
      go_wp2_with fail
      go_ret
      exact ⟨rfl, hbW.trans (y.bel.mono hbW.size)⟩

end Go.Proofs.Ytkdcmppkfgdjmaa
