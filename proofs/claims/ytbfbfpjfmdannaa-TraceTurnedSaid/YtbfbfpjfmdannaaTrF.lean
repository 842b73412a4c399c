/-
  TRACE: Same, Picked; trace.Picks; one. Written by wip/tools/gen/trf.py.
-/
import Derived.Test.YtbfbfpjfmdannaaTrE
namespace Go.Proofs.Ytbfbfpjfmdannaa
open Go.ChangeShapes Go.WideShapes Go.ChangeAt Go.RowKit

set_option maxRecDepth 100000 in
set_option maxHeartbeats 4000000 in
theorem same_any (xs ys : List EvV) (n m : Nat) (hn : xs.length = n) (hm : ys.length = m) (ln : n ≤ 100000) (lm : m ≤ 100000) (R : Bool) (hR : decide (xs = ys) = R) (p q : Option Addr) (c d : Nat) (w : World) (ha : Evs w p xs) (hb : Evs w q ys) :
    Calls Try.prog 16 #[.slice p n c, .slice q m d] w fun e w' => e = .returned (.bool R) ∧ Below w.heap.size w w' := by
  have hgd := evGuard
  have HN := Lib.hid hn
  have HM := Lib.hid hm
  have HR := Lib.hid hR
  have HA := Lib.hid ha
  have HBB := Lib.hid hb
  clear hR hn hm ha hb
  by_cases hnm : ¬ n = m
  · have k1 : ((n : Int) != (m : Int)) = true := by simp; omega
    have k2 : ((n : Int) == (m : Int)) = false := by simp; omega
    have hF : R = false := by rw [← HR.out, decide_eq_false_iff_not]; intro e; apply hnm; rw [← HN.out, ← HM.out, e]
    subst hF
    clear hnm
    go_enter Try.func16, Try.ntmps16
    go_wp2_with fail
    go_ret
    exact ⟨rfl, Below.refl _ _⟩
  replace hnm := Classical.not_not.1 hnm
  subst hnm
  have k1 : ((n : Int) != (n : Int)) = false := by simp
  have k2 : ((n : Int) == (n : Int)) = true := by simp
  go_enter Try.func16, Try.ntmps16
  go_wp2_with fail
  clear k1 k2
  go_loopw [5] (fun i wr => ∃ k x : Nat, k ≤ n ∧ i = .int .i64 k ∧ wr = w.drewN x ∧ Hid (xs.take k = ys.take k)) (fun i _ => n - (intOf i).toNat)
  case atStart => exact ⟨0, 0, Nat.zero_le _, rfl, rfl, Lib.hid rfl⟩
  case round =>
    obtain ⟨k, x, hk, rfl, rfl, HT⟩ := hrel
    by_cases hlt : k < n
    · have hx : k < xs.length := by rw [HN.out]; exact hlt
      have hy : k < ys.length := by rw [HM.out]; exact hlt
      obtain ⟨b1, o1, rfl, _, u⟩ := HA.out.at_ k hx
      obtain ⟨b2, o2, rfl, _, v⟩ := HBB.out.at_ k hy
      obtain ⟨⟨x0, x1, x2, x3, x4, x5, x6, x7⟩, hx0⟩ : ∃ t, xs[k] = t := ⟨_, rfl⟩
      obtain ⟨⟨y0, y1, y2, y3, y4, y5, y6, y7⟩, hy0⟩ : ∃ t, ys[k] = t := ⟨_, rfl⟩
      rw [hx0] at u
      rw [hy0] at v
      obtain ⟨u0, u1, u2, u3, u4, u5, u6, u7⟩ := u
      obtain ⟨v0, v1, v2, v3, v4, v5, v6, v7⟩ := v
      dsimp only at u0 u1 u2 u3 u4 u5 u6 u7 v0 v1 v2 v3 v4 v5 v6 v7
      obtain ⟨Q, hQ⟩ : ∃ Q, decide ((EvV.mk x0 x1 x2 x3 x4 x5 x6 x7) = (EvV.mk y0 y1 y2 y3 y4 y5 y6 y7)) = Q := ⟨_, rfl⟩
      have heq : ∀ wx, (Op.equalIn 10000 48 (.agg #[.int .i64 x0, .int .i64 x1, .int .i64 x2, .int .i64 x3, .int .i64 x4, .int .i64 x5, .int .i64 x6, .bool x7]) (.agg #[.int .i64 y0, .int .i64 y1, .int .i64 y2, .int .i64 y3, .int .i64 y4, .int .i64 y5, .int .i64 y6, .bool y7])).run Try.prog wx = .ok Q wx := fun wx => by
        have := evEq ⟨x0, x1, x2, x3, x4, x5, x6, x7⟩ ⟨y0, y1, y2, y3, y4, y5, y6, y7⟩ wx
        rw [hQ] at this
        exact this
      cases Q with
      | true =>
        have HT2 : Hid (xs.take (k + 1) = ys.take (k + 1)) := Lib.hid (by
          rw [List.take_succ_eq_append_getElem hx, List.take_succ_eq_append_getElem hy, HT.out, hx0, hy0, of_decide_eq_true hQ])
        clear hQ hx0 hy0 hx hy
        go_wp2_with fail
        go_quiet (fail)
        go_wp2_with fail
        go_roundw
        case rel => exact ⟨k + 1, x + nq, by omega, by go_num, by first | rfl | rw [World.drewN_drewN], HT2⟩
        case measure => simp [intOf]; omega
      | false =>
        have hF : R = false := by
          rw [← HR.out, decide_eq_false_iff_not]
          intro e
          subst e
          rw [hx0] at hy0
          exact absurd hy0 (of_decide_eq_false hQ)
        have HF := Lib.hid hF
        clear hQ hx0 hy0 hx hy hF
        go_wp2_with fail
        go_quiet (fail)
        go_wp2_with fail
        go_ret
        exact ⟨by rw [HF.out]; rfl, below_drewN (below_drewN (Below.refl _ _) _) _⟩
    · obtain rfl : k = n := by omega
      have hT : R = true := by
        have h := HT.out
        rw [List.take_of_length_le (by rw [HN.out]; omega), List.take_of_length_le (by rw [HM.out]; omega)] at h
        rw [← HR.out, h]; simp
      have HTT := Lib.hid hT
      clear hT
      go_wp2_with fail
      go_ret
      exact ⟨by rw [HTT.out]; rfl, below_drewN (Below.refl _ _) _⟩

set_option maxRecDepth 100000 in
set_option maxHeartbeats 4000000 in
theorem picked_any (xs ys : List PkV) (n m : Nat) (hn : xs.length = n) (hm : ys.length = m) (ln : n ≤ 100000) (lm : m ≤ 100000) (R : Bool) (hR : decide (xs = ys) = R) (p q : Option Addr) (c d : Nat) (w : World) (ha : Pks w p xs) (hb : Pks w q ys) :
    Calls Try.prog 13 #[.slice p n c, .slice q m d] w fun e w' => e = .returned (.bool R) ∧ Below w.heap.size w w' := by
  have hgd := pkGuard
  have HN := Lib.hid hn
  have HM := Lib.hid hm
  have HR := Lib.hid hR
  have HA := Lib.hid ha
  have HBB := Lib.hid hb
  clear hR hn hm ha hb
  by_cases hnm : ¬ n = m
  · have k1 : ((n : Int) != (m : Int)) = true := by simp; omega
    have k2 : ((n : Int) == (m : Int)) = false := by simp; omega
    have hF : R = false := by rw [← HR.out, decide_eq_false_iff_not]; intro e; apply hnm; rw [← HN.out, ← HM.out, e]
    subst hF
    clear hnm
    go_enter Try.func13, Try.ntmps13
    go_wp2_with fail
    go_ret
    exact ⟨rfl, Below.refl _ _⟩
  replace hnm := Classical.not_not.1 hnm
  subst hnm
  have k1 : ((n : Int) != (n : Int)) = false := by simp
  have k2 : ((n : Int) == (n : Int)) = true := by simp
  go_enter Try.func13, Try.ntmps13
  go_wp2_with fail
  clear k1 k2
  go_loopw [5] (fun i wr => ∃ k x : Nat, k ≤ n ∧ i = .int .i64 k ∧ wr = w.drewN x ∧ Hid (xs.take k = ys.take k)) (fun i _ => n - (intOf i).toNat)
  case atStart => exact ⟨0, 0, Nat.zero_le _, rfl, rfl, Lib.hid rfl⟩
  case round =>
    obtain ⟨k, x, hk, rfl, rfl, HT⟩ := hrel
    by_cases hlt : k < n
    · have hx : k < xs.length := by rw [HN.out]; exact hlt
      have hy : k < ys.length := by rw [HM.out]; exact hlt
      obtain ⟨b1, o1, rfl, _, u⟩ := HA.out.at_ k hx
      obtain ⟨b2, o2, rfl, _, v⟩ := HBB.out.at_ k hy
      obtain ⟨⟨x0, x1, x2⟩, hx0⟩ : ∃ t, xs[k] = t := ⟨_, rfl⟩
      obtain ⟨⟨y0, y1, y2⟩, hy0⟩ : ∃ t, ys[k] = t := ⟨_, rfl⟩
      rw [hx0] at u
      rw [hy0] at v
      obtain ⟨u0, u1, u2⟩ := u
      obtain ⟨v0, v1, v2⟩ := v
      dsimp only at u0 u1 u2 v0 v1 v2
      obtain ⟨Q, hQ⟩ : ∃ Q, decide ((PkV.mk x0 x1 x2) = (PkV.mk y0 y1 y2)) = Q := ⟨_, rfl⟩
      have heq : ∀ wx, (Op.equalIn 10000 55 (.agg #[.int .i64 x0, .int .i64 x1, .int .i64 x2]) (.agg #[.int .i64 y0, .int .i64 y1, .int .i64 y2])).run Try.prog wx = .ok Q wx := fun wx => by
        have := pkEq ⟨x0, x1, x2⟩ ⟨y0, y1, y2⟩ wx
        rw [hQ] at this
        exact this
      cases Q with
      | true =>
        have HT2 : Hid (xs.take (k + 1) = ys.take (k + 1)) := Lib.hid (by
          rw [List.take_succ_eq_append_getElem hx, List.take_succ_eq_append_getElem hy, HT.out, hx0, hy0, of_decide_eq_true hQ])
        clear hQ hx0 hy0 hx hy
        go_wp2_with fail
        go_quiet (fail)
        go_wp2_with fail
        go_roundw
        case rel => exact ⟨k + 1, x + nq, by omega, by go_num, by first | rfl | rw [World.drewN_drewN], HT2⟩
        case measure => simp [intOf]; omega
      | false =>
        have hF : R = false := by
          rw [← HR.out, decide_eq_false_iff_not]
          intro e
          subst e
          rw [hx0] at hy0
          exact absurd hy0 (of_decide_eq_false hQ)
        have HF := Lib.hid hF
        clear hQ hx0 hy0 hx hy hF
        go_wp2_with fail
        go_quiet (fail)
        go_wp2_with fail
        go_ret
        exact ⟨by rw [HF.out]; rfl, below_drewN (below_drewN (Below.refl _ _) _) _⟩
    · obtain rfl : k = n := by omega
      have hT : R = true := by
        have h := HT.out
        rw [List.take_of_length_le (by rw [HN.out]; omega), List.take_of_length_le (by rw [HM.out]; omega)] at h
        rw [← HR.out, h]; simp
      have HTT := Lib.hid hT
      clear hT
      go_wp2_with fail
      go_ret
      exact ⟨by rw [HTT.out]; rfl, below_drewN (Below.refl _ _) _⟩

def pks (l : List EvV) : List PkV := l.map EvV.pick
theorem pks_V (l : List EvV) : pkV (pks l) = picksV l := by unfold pks pkV picksV; rw [List.flatMap_map]
set_option maxRecDepth 100000 in
set_option maxHeartbeats 4000000 in
theorem picks_any (p : Option Addr) (l : List EvV) (n cap : Nat) (hn : l.length = n) (hm : n ≤ 1000) (w : World) (E : Evs w p l) :
    Calls Try.prog 14 #[.slice p n cap] w fun r w' => ∃ g, r = .returned (.slice (some ⟨g, 0, none⟩) n n) ∧ Pks w' (some ⟨g, 0, none⟩) (pks l) ∧ Below w.heap.size w w' := by
  have HE := Lib.hid E
  clear E
  go_enter Try.func14, Try.ntmps14
  go_wp2_with fail
  refine (mapPick_any p l n cap hn hm w HE.out).mono ?_
  rintro r w1 ⟨g, rfl, -, hc, hb⟩
  have HC := Lib.hid hc
  have HB := Lib.hid hb
  clear hc hb
  go_wp2_with fail
  go_ret
  exact ⟨g, rfl, Pks.of_cells (by rw [pks_V]; exact HC.out), HB.out⟩
set_option maxRecDepth 100000 in
theorem one_any (w : World) : Calls Try.prog 20 #[] w fun r w' => r = .returned (EvV.mk 1 0 1 2 0 0 7 true).agg ∧ Below w.heap.size w w' := by
  go_enter Try.func20, Try.ntmps20
  go_wp2_with fail
  exact bodyPost_ret (results_cell_row Try.results20 _ _ w.heap.size 48 _ (0, 0) _ rfl (heap_alloc_new _ _) evFields rfl evI) rfl ⟨rfl, (Below.refl _ _).alloc (Nat.le_refl _) _⟩
end Go.Proofs.Ytbfbfpjfmdannaa
