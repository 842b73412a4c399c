/-
  HIST: Same.
-/
import Derived.Test.YtedgliaablokcaaRows
import Derived.ProofKit
import Derived.Deep.QuietTactic
import Derived.BigQuiet
import Derived.LoopTactic
import Derived.Laws.StructEq
import Derived.Test.YtedgliaablokcaaHistD
namespace Go.Proofs.Ytedgliaablokcaa
open Go.ChangeShapes Go.WideShapes Go.ChangeAt Go.RowKit

set_option maxRecDepth 100000 in
set_option maxHeartbeats 1000000 in
theorem same_any (p q : Option Addr) (a b : List CallV) (c d : Nat) (w : World) (ha : Hcs w p a) (hb : Hcs w q b) (hl : a.length ≤ 1000000) (hl2 : b.length ≤ 1000000) :
    Calls Try.prog 15 #[.slice p a.length c, .slice q b.length d] w fun e w' => e = .returned (.bool (decide (a = b))) ∧ ∃ n, w' = w.drewN n := by
  obtain ⟨n, hn⟩ : ∃ n, a.length = n := ⟨_, rfl⟩
  obtain ⟨m, hm⟩ : ∃ m, b.length = m := ⟨_, rfl⟩
  have HN := Lib.hid hn
  have HM := Lib.hid hm
  rw [hn] at hl ⊢
  rw [hm] at hl2 ⊢
  clear hn hm
  have hgd := hcGuard
  by_cases hnm : n = m
  · subst hnm
    go_enter Try.func15, Try.ntmps15
    go_wp2_with fail
    go_loopw [5] (fun i wr => ∃ k x : Nat, k ≤ n ∧ i = .int .i64 k ∧ wr = w.drewN x ∧ Hid (∀ j (h1 : j < a.length) (h2 : j < b.length), j < k → a[j] = b[j])) (fun i _ => n - (intOf i).toNat)
    case atStart => exact ⟨0, 0, Nat.zero_le _, rfl, rfl, Lib.hid (fun j _ _ hj => by omega)⟩
    case round =>
      obtain ⟨k, x, hk, rfl, rfl, HE⟩ := hrel
      by_cases hlt : k < n
      · have hk1 : k < a.length := by rw [HN.out]; exact hlt
        have hk2 : k < b.length := by rw [HM.out]; exact hlt
        obtain ⟨b1, o1, rfl, _, hat⟩ := ha.at_ k hk1
        obtain ⟨b2, o2, rfl, _, hbt⟩ := hb.at_ k hk2
        obtain ⟨x0, e0⟩ : ∃ v, a[k] = v := ⟨_, rfl⟩
        obtain ⟨y0, e1⟩ : ∃ v, b[k] = v := ⟨_, rfl⟩
        rw [e0] at hat
        obtain ⟨g0, g1, g2, g3, g4, g5, g6, g7, g8, g9⟩ := hat
        rw [e1] at hbt
        obtain ⟨f0, f1, f2, f3, f4, f5, f6, f7, f8, f9⟩ := hbt
        have E0 := Lib.hid e0
        have E1 := Lib.hid e1
        clear e0 e1
        by_cases hxy : x0 = y0
        · have heq : ∀ wx, (Op.equalIn 10000 30 (.agg #[.int .i64 x0.who, .int .i64 x0.kind, .int .i64 x0.obj, .int .i64 x0.a, .int .i64 x0.b, .int .i64 x0.val, .bool x0.is, .int .i64 x0.first, .int .i64 x0.last, .int .i64 x0.point]) (.agg #[.int .i64 y0.who, .int .i64 y0.kind, .int .i64 y0.obj, .int .i64 y0.a, .int .i64 y0.b, .int .i64 y0.val, .bool y0.is, .int .i64 y0.first, .int .i64 y0.last, .int .i64 y0.point])).run Try.prog wx = .ok true wx := fun wx => by rw [hcEq, decide_eq_true hxy]
          have HXY := Lib.hid hxy
          clear hxy
          go_wp2_with fail
          go_quiet (fail)
          go_wp2_with fail
          go_roundw
          case rel =>
            refine ⟨k + 1, x + nq, by omega, by go_num, ?_, Lib.hid (fun j h1 h2 hj => ?_)⟩
            · rfl
            · by_cases hjk : j = k
              · subst hjk; exact (E0.out.trans HXY.out).trans E1.out.symm
              · exact HE.out j h1 h2 (by omega)
          case measure => simp [intOf]; omega
        · have heq : ∀ wx, (Op.equalIn 10000 30 (.agg #[.int .i64 x0.who, .int .i64 x0.kind, .int .i64 x0.obj, .int .i64 x0.a, .int .i64 x0.b, .int .i64 x0.val, .bool x0.is, .int .i64 x0.first, .int .i64 x0.last, .int .i64 x0.point]) (.agg #[.int .i64 y0.who, .int .i64 y0.kind, .int .i64 y0.obj, .int .i64 y0.a, .int .i64 y0.b, .int .i64 y0.val, .bool y0.is, .int .i64 y0.first, .int .i64 y0.last, .int .i64 y0.point])).run Try.prog wx = .ok false wx := fun wx => by rw [hcEq, decide_eq_false hxy]
          have hd : decide (a = b) = false := by
            rw [decide_eq_false_iff_not]; intro e
            subst e
            exact hxy (E0.out.symm.trans E1.out)
          have HD := Lib.hid hd
          clear hxy hd
          go_wp2_with fail
          go_quiet (fail)
          go_wp2_with fail
          go_ret
          exact ⟨by rw [HD.out]; rfl, x + nq, by first | rfl | rw [World.drewN_drewN]⟩
      · obtain rfl : k = n := by omega
        have hd : decide (a = b) = true := by
          rw [decide_eq_true_eq]
          exact List.ext_getElem (by rw [HN.out, HM.out]) (fun j h1 h2 => HE.out j h1 h2 (by rw [HN.out] at h1; omega))
        have HD := Lib.hid hd
        clear hd
        go_wp2_with fail
        go_ret
        exact ⟨by rw [HD.out]; rfl, x, rfl⟩
  · have hne : ((n : Int) == (m : Int)) = false := by simp; omega
    have hne2 : ((n : Int) != (m : Int)) = true := by simp; omega
    have hd : decide (a = b) = false := by
      rw [decide_eq_false_iff_not]; intro e; apply hnm; rw [← HN.out, ← HM.out, e]
    have HD := Lib.hid hd
    clear hd hnm
    go_enter Try.func15, Try.ntmps15
    go_wp2_with fail
    go_ret
    exact ⟨by rw [HD.out]; rfl, 0, rfl⟩
end Go.Proofs.Ytedgliaablokcaa
