/-
  HIST: Right.
-/
import Derived.Test.YtedgliaablokcaaRows
import Derived.ProofKit
import Derived.Deep.QuietTactic
import Derived.BigQuiet
import Derived.LoopTactic
import Derived.Test.YtedgliaablokcaaTail
import Derived.Test.YtedgliaablokcaaOwn
import Derived.Test.YtedgliaablokcaaHistP
import Derived.Test.YtedgliaablokcaaHistB
namespace Go.Proofs.Ytedgliaablokcaa
open Go.ChangeShapes Go.WideShapes Go.ChangeAt Go.RowKit

set_option maxRecDepth 100000 in
set_option maxHeartbeats 8000000 in
theorem right_any (l : List CallV) (p : Option Addr) (cap : Nat) (w : World) (h : Hcs w p l) (hl : l.length ≤ 1000000) :
    Calls Try.prog 14 #[.slice p l.length cap] w fun e w' => e = .returned (.bool (rightB l)) ∧ Below w.heap.size w w' := by
  obtain ⟨R, hR⟩ : ∃ R, rightB l = R := ⟨_, rfl⟩
  obtain ⟨n, hn⟩ : ∃ n, l.length = n := ⟨_, rfl⟩
  have hyes : Hid (OkUpto l n → R = true) := Lib.hid fun H => by rw [← hR]; exact (rightB_iff l).2 (by rw [hn]; exact H)
  have hmay : Hid (∀ i (hi : i < l.length), mayC l[i] = false → R = false) := Lib.hid fun i hi h => by rw [← hR]; exact not_may i hi h
  have hbeh : Hid (∀ k i (hk : k < l.length) (hi : i < l.length), k < i → behindC l[k] l[i] = false → R = false) := Lib.hid fun k i hk hi hki h => by rw [← hR]; exact not_behind k i hk hi hki h
  have HN := Lib.hid hn
  obtain ⟨b, off, hpp⟩ : ∃ b off, Hid (0 < n → p = some ⟨b, off, none⟩ ∧ b < w.heap.size ∧ ∀ i (hi : i < l.length), HcAt w b (off + i * 10) l[i]) := by
    by_cases h0 : 0 < n
    · obtain ⟨b, off, h1, h2, h3⟩ := h.opened (by rw [hn]; exact h0)
      exact ⟨b, off, Lib.hid fun _ => ⟨h1, h2, h3⟩⟩
    · exact ⟨0, 0, Lib.hid fun h => absurd h h0⟩
  obtain ⟨W0, hW0⟩ : ∃ W, W = w.alloc (Obj.cells #[.pointer none, .pointer none, .pointer none, .pointer none, .pointer none, .pointer none, .pointer none, .pointer none] 54) := ⟨_, rfl⟩
  have KBF : Blk W0 w.heap.size 54 (befV b off l 0) := by rw [hW0]; exact Blk.made w _ _
  have hB0 : Below w.heap.size w W0 := by rw [hW0]; exact below_alloc1 w _
  have HW0 := Lib.hid hW0
  have HKBF := Lib.hid KBF
  have HB0 := Lib.hid hB0
  rw [hn] at hl ⊢
  rw [hR]
  clear hn h hR hW0 KBF hB0
  go_enter Try.func14, Try.ntmps14
  go_wp2_with fail
  rw [← HW0.out]
  go_loopw [9] (fun i wr => ∃ k : Nat, i = .int .i64 k ∧ k ≤ n ∧ Hid (OkUpto l k) ∧ ∃ W, W = wr ∧ Blk W w.heap.size 54 (befV b off l k) ∧ Below w.heap.size w W) (fun i _ => n - (intOf i).toNat)
  case atStart => exact ⟨0, rfl, by omega, Lib.hid (OkUpto.zero l), _, rfl, HKBF.out, HB0.out⟩
  case round =>
    obtain ⟨k, rfl, hk, HO, wr, rfl, hKB, hb⟩ := hrel
    by_cases hlt : k < n
    · have hkl : k < l.length := by rw [HN.out]; exact hlt
      obtain ⟨hp, hlb, hall⟩ := hpp.out (by omega)
      have hlb1 : b < wr.heap.size := Nat.lt_of_lt_of_le hlb hb.size
      have HALL : Hid (∀ j (hj : j < l.length) wx, Below w.heap.size w wx → HcAt wx b (off + j * 10) l[j]) := Lib.hid fun j hj wx hbx => by
        obtain ⟨g0, g1, g2, g3, g4, g5, g6, g7, g8, g9⟩ := hall j hj
        exact ⟨by rw [hbx.cell (p := ⟨b, _, none⟩) hlb]; exact g0, by rw [hbx.cell (p := ⟨b, _, none⟩) hlb]; exact g1, by rw [hbx.cell (p := ⟨b, _, none⟩) hlb]; exact g2, by rw [hbx.cell (p := ⟨b, _, none⟩) hlb]; exact g3, by rw [hbx.cell (p := ⟨b, _, none⟩) hlb]; exact g4, by rw [hbx.cell (p := ⟨b, _, none⟩) hlb]; exact g5, by rw [hbx.cell (p := ⟨b, _, none⟩) hlb]; exact g6, by rw [hbx.cell (p := ⟨b, _, none⟩) hlb]; exact g7, by rw [hbx.cell (p := ⟨b, _, none⟩) hlb]; exact g8, by rw [hbx.cell (p := ⟨b, _, none⟩) hlb]; exact g9⟩
      subst hp
      have HLB := Lib.hid hlb
      clear hlb hall
      obtain ⟨c, hc⟩ : ∃ c, l[k] = c := ⟨_, rfl⟩
      obtain ⟨xw, xk, xo, xa, xb, xv, xi, xf, xl, xp⟩ := c
      have hci := HALL.out k hkl wr hb
      rw [hc] at hci
      unfold HcAt at hci
      dsimp only at hci
      obtain ⟨g0, g1, g2, g3, g4, g5, g6, g7, g8, g9⟩ := hci
      have HC := Lib.hid hc
      clear hc
      obtain ⟨W1, hW1⟩ : ∃ W, W = wr.alloc (Obj.cells #[.int .i64 xw, .int .i64 xk, .int .i64 xo, .int .i64 xa, .int .i64 xb, .int .i64 xv, .bool xi, .int .i64 xf, .int .i64 xl, .int .i64 xp] 30) := ⟨_, rfl⟩
      have KX : Blk W1 wr.heap.size 30 #[.int .i64 xw, .int .i64 xk, .int .i64 xo, .int .i64 xa, .int .i64 xb, .int .i64 xv, .bool xi, .int .i64 xf, .int .i64 xl, .int .i64 xp] := by rw [hW1]; exact Blk.made _ _ _
      have KB1 : Blk W1 w.heap.size 54 (befV b off l k) := by rw [hW1]; exact hKB.alloc _
      have hB1 : Below w.heap.size w W1 := by rw [hW1]; exact hb.alloc hb.size _
      have hlx := KX.lt
      have xy0 : ∀ y : After W1, y.w.cell? ⟨wr.heap.size, 0, none⟩ = some (.int .i64 xw) := fun y => (y.cell hlx).trans (KX.cell 0)
      have xy1 : ∀ y : After W1, y.w.cell? ⟨wr.heap.size, 1, none⟩ = some (.int .i64 xk) := fun y => (y.cell hlx).trans (KX.cell 1)
      have xy2 : ∀ y : After W1, y.w.cell? ⟨wr.heap.size, 2, none⟩ = some (.int .i64 xo) := fun y => (y.cell hlx).trans (KX.cell 2)
      have xy3 : ∀ y : After W1, y.w.cell? ⟨wr.heap.size, 3, none⟩ = some (.int .i64 xa) := fun y => (y.cell hlx).trans (KX.cell 3)
      have xy4 : ∀ y : After W1, y.w.cell? ⟨wr.heap.size, 4, none⟩ = some (.int .i64 xb) := fun y => (y.cell hlx).trans (KX.cell 4)
      have xy5 : ∀ y : After W1, y.w.cell? ⟨wr.heap.size, 5, none⟩ = some (.int .i64 xv) := fun y => (y.cell hlx).trans (KX.cell 5)
      have xy6 : ∀ y : After W1, y.w.cell? ⟨wr.heap.size, 6, none⟩ = some (.bool xi) := fun y => (y.cell hlx).trans (KX.cell 6)
      have xy7 : ∀ y : After W1, y.w.cell? ⟨wr.heap.size, 7, none⟩ = some (.int .i64 xf) := fun y => (y.cell hlx).trans (KX.cell 7)
      have xy8 : ∀ y : After W1, y.w.cell? ⟨wr.heap.size, 8, none⟩ = some (.int .i64 xl) := fun y => (y.cell hlx).trans (KX.cell 8)
      have xy9 : ∀ y : After W1, y.w.cell? ⟨wr.heap.size, 9, none⟩ = some (.int .i64 xp) := fun y => (y.cell hlx).trans (KX.cell 9)
      have hlb2 : b < W1.heap.size := Nat.lt_of_lt_of_le hlb1 (by rw [hW1]; simp)
      have HW1 := Lib.hid hW1
      have HBOX := Lib.hid KX
      have HBF1 := Lib.hid KB1
      have HB1 := Lib.hid hB1
      clear hW1 KX KB1 hKB hb
      obtain ⟨m, hm⟩ : ∃ m, mayC ⟨xw, xk, xo, xa, xb, xv, xi, xf, xl, xp⟩ = m := ⟨_, rfl⟩
      have HM : Hid (∀ wx, Calls Try.prog 25 #[.agg #[.int .i64 xw, .int .i64 xk, .int .i64 xo, .int .i64 xa, .int .i64 xb, .int .i64 xv, .bool xi, .int .i64 xf, .int .i64 xl, .int .i64 xp]] wx fun e w' => e = .returned (.bool m) ∧ Below wx.heap.size wx w') := Lib.hid fun wx => by rw [← hm]; exact may_any ⟨xw, xk, xo, xa, xb, xv, xi, xf, xl, xp⟩ wx
      have HMM := Lib.hid hm
      clear hm
      cases m
      · have hr := hmay.out k hkl (by rw [HC.out]; exact HMM.out)
        have HR := Lib.hid hr
        clear hr hB1 hlb2
        go_wp2_with fail
        rw [← HW1.out]
        refine wp_region_after (by kernel_rfl) (by kernel_rfl) ?_
        repeat (go_big_quiet_step ((go_at_call 25; exact calls_after (HM.out _))))
        refine wpQuiet_nil ?_
        rintro _ ⟨y, rfl⟩
        go_wp2_with fail
        go_ret
        exact ⟨by rw [HR.out]; rfl, HB1.out.trans (y.bel.mono HB1.out.size)⟩
      · have hw8 := mayC_true HMM.out
        dsimp only at hw8
        by_cases hk0 : k = 0
        · have e0 : decide (0 < (k : Int)) = false := by simp; omega
          have e0n : decide (0 < k) = false := by simp; omega
          have HF : Hid (∀ (h0 : 0 < k) (hx : k - 1 < l.length), l[k - 1].first < xf) := Lib.hid fun h => absurd h (by omega)
          clear hk0 hB1 hlb2
          go_wp2_with fail
          rw [← HW1.out]
          refine wp_region_after (by kernel_rfl) (by kernel_rfl) ?_
          repeat (go_big_quiet_step ((go_at_call 25; exact calls_after (HM.out _))))
          refine wpQuiet_nil ?_
          rintro _ ⟨y, rfl⟩
          clear xy0 xy1 xy2 xy3 xy4 xy5 xy6 xy7 xy8 xy9 e0 e0n g0 g1 g2 g3 g4 g5 g6 g7 g8 g9 hlb1
          obtain ⟨j, rfl⟩ : ∃ j : Nat, xw = (j : Int) := ⟨xw.toNat, by omega⟩
          have hj8 : j < 8 := by omega
          have hj8i : (j : Int) < 8 := by omega
          obtain ⟨W2, hW2⟩ : ∃ W, W = y.w := ⟨_, rfl⟩
          have hb12 : Below W1.heap.size W1 W2 := by rw [hW2]; exact y.bel
          rw [← hW2]
          have KX2 := HBOX.out.later hb12
          have KBF2 := HBF1.out.later hb12
          have hB2 := HB1.out.trans (hb12.mono HB1.out.size)
          have hbx := KX2.lt
          have HX2 := Lib.hid KX2
          have d0 : W2.cell? ⟨wr.heap.size, 0, none⟩ = some (.int .i64 (j : Int)) := KX2.cell 0
          have d1 : W2.cell? ⟨wr.heap.size, 1, none⟩ = some (.int .i64 xk) := KX2.cell 1
          have d2 : W2.cell? ⟨wr.heap.size, 2, none⟩ = some (.int .i64 xo) := KX2.cell 2
          have d3 : W2.cell? ⟨wr.heap.size, 3, none⟩ = some (.int .i64 xa) := KX2.cell 3
          have d4 : W2.cell? ⟨wr.heap.size, 4, none⟩ = some (.int .i64 xb) := KX2.cell 4
          have d5 : W2.cell? ⟨wr.heap.size, 5, none⟩ = some (.int .i64 xv) := KX2.cell 5
          have d6 : W2.cell? ⟨wr.heap.size, 6, none⟩ = some (.bool xi) := KX2.cell 6
          have d7 : W2.cell? ⟨wr.heap.size, 7, none⟩ = some (.int .i64 xf) := KX2.cell 7
          have d8 : W2.cell? ⟨wr.heap.size, 8, none⟩ = some (.int .i64 xl) := KX2.cell 8
          have d9 : W2.cell? ⟨wr.heap.size, 9, none⟩ = some (.int .i64 xp) := KX2.cell 9
          clear hW2 hb12 KX2
          cases hq : lastOf l (j : Int) k with
          | none =>
            have hbf := befV_at b off l k j hj8
            rw [hq] at hbf
            have HLA : Hid (∀ q (hq : q < l.length), lastOf l (j : Int) k = some q → l[q].last < xf) := Lib.hid fun q hq2 h => by rw [hq] at h; cases h
            have cw : W2.cell? ⟨w.heap.size, j, none⟩ = some (.pointer none) := (KBF2.cell j).trans hbf
            clear hq
            go_wp2_with fail
            refine wp_region_after (by kernel_rfl) (by kernel_rfl) ?_
            repeat (go_big_quiet_step (fail))
            refine wpQuiet_nil ?_
            rintro _ ⟨u, rfl⟩
            clear cw
            obtain ⟨W3, hW3⟩ : ∃ W, W = u.w := ⟨_, rfl⟩
            have hb23 : Below W2.heap.size W2 W3 := by rw [hW3]; exact u.bel
            rw [← hW3]
            have KBF3 := KBF2.later hb23
            have KX3 := HX2.out.later hb23
            have hB3 := hB2.trans (hb23.mono hB2.size)
            clear hW3 hb23 KBF2 hB2 d0 d1 d2 d3 d4 d5 d6 d7 d8 d9 hbx
            have KBF2 := KBF3
            have hB2 := hB3
            have hbx := KX3.lt
            have d0 : W3.cell? ⟨wr.heap.size, 0, none⟩ = some (.int .i64 (j : Int)) := KX3.cell 0
            clear KBF3 hB3 KX3
            have HB2 := Lib.hid hB2
            have KA := Lib.hid KBF2
            have cwj := (KBF2.cell j).trans hbf
            have fwj := KBF2.free j
            have hOK := Lib.hid (OkUpto.step HO.out hkl (by rw [HC.out]; exact HMM.out) (behind_all HO.out hkl (by rw [HC.out]; exact fun h0 => HF.out h0 (by omega)) (by rw [HC.out]; exact HLA.out)))
            have eyd := fun (z : After W3) => (z.cell hbx).trans d0
            clear KBF2 hB2
            go_wp2_with fail
            refine wp_region_after_tail 6 (by kernel_rfl) (by kernel_rfl) ?_
            simp only [List.take_succ_cons, List.take_zero, List.drop_succ_cons, List.drop_zero]
            repeat (go_big_quiet_step (fail))
            refine wpQuiet_nil ?_
            rintro _ ⟨z, rfl⟩
            have KA3 := KA.out.later z.bel
            have cwz := (KA3.cell j).trans hbf
            have fwz := KA3.free j
            have HKA3 := Lib.hid KA3
            have HB3 := Lib.hid (HB2.out.trans (z.bel.mono HB2.out.size))
            clear KA3 eyd cwj fwj
            go_wp2_with fail
            go_roundw
            case rel =>
              refine ⟨k + 1, by simp, by omega, hOK, _, rfl, ?_, HB3.out.setCell (Nat.le_refl _) _⟩
              rw [← befV_put b off l k j hkl hj8 (by rw [HC.out])]
              exact HKA3.out.put j _
            case measure => simp [intOf]; omega
          | some q =>
            have hbf := befV_at b off l k j hj8
            rw [hq] at hbf
            obtain ⟨hql, hqk, hqw, _⟩ := lastOf_some k q hq
            have cw : W2.cell? ⟨w.heap.size, j, none⟩ = some (.pointer (some ⟨b, off + q * 10, none⟩)) := (KBF2.cell j).trans hbf
            have hlb2 : b < W2.heap.size := Nat.lt_of_lt_of_le HLB.out hB2.size
            obtain ⟨d, hd⟩ : ∃ d, l[q] = d := ⟨_, rfl⟩
            have hdi := HALL.out q hql W2 hB2
            rw [hd] at hdi hqw
            obtain ⟨f0, f1, f2, f3, f4, f5, f6, f7, f8, f9⟩ := hdi
            have fy0 := fun (u : After W2) => (u.cell hlb2).trans f0
            have dy0 := fun (u : After W2) => (u.cell hbx).trans d0
            have fy1 := fun (u : After W2) => (u.cell hlb2).trans f1
            have dy1 := fun (u : After W2) => (u.cell hbx).trans d1
            have fy2 := fun (u : After W2) => (u.cell hlb2).trans f2
            have dy2 := fun (u : After W2) => (u.cell hbx).trans d2
            have fy3 := fun (u : After W2) => (u.cell hlb2).trans f3
            have dy3 := fun (u : After W2) => (u.cell hbx).trans d3
            have fy4 := fun (u : After W2) => (u.cell hlb2).trans f4
            have dy4 := fun (u : After W2) => (u.cell hbx).trans d4
            have fy5 := fun (u : After W2) => (u.cell hlb2).trans f5
            have dy5 := fun (u : After W2) => (u.cell hbx).trans d5
            have fy6 := fun (u : After W2) => (u.cell hlb2).trans f6
            have dy6 := fun (u : After W2) => (u.cell hbx).trans d6
            have fy7 := fun (u : After W2) => (u.cell hlb2).trans f7
            have dy7 := fun (u : After W2) => (u.cell hbx).trans d7
            have fy8 := fun (u : After W2) => (u.cell hlb2).trans f8
            have dy8 := fun (u : After W2) => (u.cell hbx).trans d8
            have fy9 := fun (u : After W2) => (u.cell hlb2).trans f9
            have dy9 := fun (u : After W2) => (u.cell hbx).trans d9
            have HAH : Hid (∀ wx, Calls Try.prog 10 #[.agg #[.int .i64 d.who, .int .i64 d.kind, .int .i64 d.obj, .int .i64 d.a, .int .i64 d.b, .int .i64 d.val, .bool d.is, .int .i64 d.first, .int .i64 d.last, .int .i64 d.point], .agg #[.int .i64 (j : Int), .int .i64 xk, .int .i64 xo, .int .i64 xa, .int .i64 xb, .int .i64 xv, .bool xi, .int .i64 xf, .int .i64 xl, .int .i64 xp]] wx fun e w' => e = .returned (.bool (decide (d.last < xf))) ∧ Below wx.heap.size wx w') := Lib.hid fun wx => ahead_any d ⟨(j : Int), xk, xo, xa, xb, xv, xi, xf, xl, xp⟩ wx
            have HQ := Lib.hid hq
            have HD := Lib.hid hd
            have HQW := Lib.hid hqw
            clear hq hd hqw f0 f1 f2 f3 f4 f5 f6 f7 f8 f9
            by_cases hah : d.last < xf
            · have HLA : Hid (∀ q (hq : q < l.length), lastOf l (j : Int) k = some q → l[q].last < xf) := Lib.hid fun q2 hq2 h => by
                rw [HQ.out] at h; injection h with h; subst h; rw [HD.out]; exact hah
              rw [decide_eq_true hah] at HAH
              clear hah
              go_wp2_with fail
              refine wp_region_after (by kernel_rfl) (by kernel_rfl) ?_
              repeat (go_big_quiet_step ((go_at_call 10; exact calls_after (HAH.out _))))
              refine wpQuiet_nil ?_
              rintro _ ⟨u, rfl⟩
              clear cw fy0 fy1 fy2 fy3 fy4 fy5 fy6 fy7 fy8 fy9 dy0 dy1 dy2 dy3 dy4 dy5 dy6 dy7 dy8 dy9
              obtain ⟨W3, hW3⟩ : ∃ W, W = u.w := ⟨_, rfl⟩
              have hb23 : Below W2.heap.size W2 W3 := by rw [hW3]; exact u.bel
              rw [← hW3]
              have KBF3 := KBF2.later hb23
              have KX3 := HX2.out.later hb23
              have hB3 := hB2.trans (hb23.mono hB2.size)
              clear hW3 hb23 KBF2 hB2 d0 d1 d2 d3 d4 d5 d6 d7 d8 d9 hbx
              have KBF2 := KBF3
              have hB2 := hB3
              have hbx := KX3.lt
              have d0 : W3.cell? ⟨wr.heap.size, 0, none⟩ = some (.int .i64 (j : Int)) := KX3.cell 0
              clear KBF3 hB3 KX3
              have HB2 := Lib.hid hB2
              have KA := Lib.hid KBF2
              have cwj := (KBF2.cell j).trans hbf
              have fwj := KBF2.free j
              have hOK := Lib.hid (OkUpto.step HO.out hkl (by rw [HC.out]; exact HMM.out) (behind_all HO.out hkl (by rw [HC.out]; exact fun h0 => HF.out h0 (by omega)) (by rw [HC.out]; exact HLA.out)))
              have eyd := fun (z : After W3) => (z.cell hbx).trans d0
              clear KBF2 hB2
              go_wp2_with fail
              refine wp_region_after_tail 6 (by kernel_rfl) (by kernel_rfl) ?_
              simp only [List.take_succ_cons, List.take_zero, List.drop_succ_cons, List.drop_zero]
              repeat (go_big_quiet_step (fail))
              refine wpQuiet_nil ?_
              rintro _ ⟨z, rfl⟩
              have KA3 := KA.out.later z.bel
              have cwz := (KA3.cell j).trans hbf
              have fwz := KA3.free j
              have HKA3 := Lib.hid KA3
              have HB3 := Lib.hid (HB2.out.trans (z.bel.mono HB2.out.size))
              clear KA3 eyd cwj fwj
              go_wp2_with fail
              go_roundw
              case rel =>
                refine ⟨k + 1, by simp, by omega, hOK, _, rfl, ?_, HB3.out.setCell (Nat.le_refl _) _⟩
                rw [← befV_put b off l k j hkl hj8 (by rw [HC.out])]
                exact HKA3.out.put j _
              case measure => simp [intOf]; omega
            · have hbv : behindC d ⟨(j : Int), xk, xo, xa, xb, xv, xi, xf, xl, xp⟩ = false := decide_eq_false fun h => hah (h.2 (by rw [HQW.out]))
              have hr := hbeh.out q k hql hkl hqk (by rw [HD.out, HC.out]; exact hbv)
              have HR := Lib.hid hr
              rw [decide_eq_false hah] at HAH
              clear hah hbv hr
              have HB2 := Lib.hid hB2
              clear hB2 KBF2
              go_wp2_with fail
              refine wp_region_after (by kernel_rfl) (by kernel_rfl) ?_
              repeat (go_big_quiet_step ((go_at_call 10; exact calls_after (HAH.out _))))
              refine wpQuiet_nil ?_
              rintro _ ⟨u, rfl⟩
              go_wp2_with fail
              go_ret
              exact ⟨by rw [HR.out]; rfl, HB2.out.trans (u.bel.mono HB2.out.size)⟩
        · obtain ⟨k0, hk0e⟩ : ∃ k0, k0 = k - 1 := ⟨_, rfl⟩
          have e0 : decide (0 < (k : Int)) = true := by simp; omega
          have e0n : decide (0 < k) = true := by simp; omega
          have e1 : IntKind.i64.wrap ((k : Int) - 1) = (k0 : Int) := by rw [IntKind.wrap_i64]; omega
          have e2 : (k : Int) - 1 = (k0 : Int) := by omega
          have hk0l : k0 < l.length := by omega
          have hk0n : k0 < n := by omega
          have hk0k : k0 < k := by omega
          obtain ⟨d0, hd0⟩ : ∃ d, l[k0] = d := ⟨_, rfl⟩
          have hdi := HALL.out k0 hk0l W1 hB1
          rw [hd0] at hdi
          have hd7 := hdi.2.2.2.2.2.2.2.1
          have hy7 := fun (y : After W1) => (y.cell hlb2).trans hd7
          by_cases hf : xf ≤ d0.first
          · have e3 : decide (xf ≤ d0.first) = true := by simp; exact hf
            have hr := hbeh.out k0 k hk0l hkl hk0k (by rw [hd0, HC.out]; exact decide_eq_false fun h => by have := h.1; dsimp only at this; omega)
            have HR := Lib.hid hr
            clear hr hd0 hf hdi hd7 hk0e hB1 hlb2
            go_wp2_with fail
            rw [← HW1.out]
            refine wp_region_after (by kernel_rfl) (by kernel_rfl) ?_
            repeat (go_big_quiet_step ((go_at_call 25; exact calls_after (HM.out _))))
            refine wpQuiet_nil ?_
            rintro _ ⟨y, rfl⟩
            go_wp2_with fail
            go_ret
            exact ⟨by rw [HR.out]; rfl, HB1.out.trans (y.bel.mono HB1.out.size)⟩
          · have e3 : decide (xf ≤ d0.first) = false := by simp; omega
            have HF : Hid (∀ (h0 : 0 < k) (hx : k - 1 < l.length), l[k - 1].first < xf) := Lib.hid fun _ _ => by
              have : l[k - 1] = d0 := by rw [← hd0]; congr 1; exact hk0e.symm
              rw [this]; omega
            clear hd0 hf hdi hd7 hk0e hB1 hlb2
            go_wp2_with fail
            rw [← HW1.out]
            refine wp_region_after (by kernel_rfl) (by kernel_rfl) ?_
            repeat (go_big_quiet_step ((go_at_call 25; exact calls_after (HM.out _))))
            refine wpQuiet_nil ?_
            rintro _ ⟨y, rfl⟩
            clear xy0 xy1 xy2 xy3 xy4 xy5 xy6 xy7 xy8 xy9 hy7 e0 e0n e1 e2 e3 g0 g1 g2 g3 g4 g5 g6 g7 g8 g9 hlb1
            obtain ⟨j, rfl⟩ : ∃ j : Nat, xw = (j : Int) := ⟨xw.toNat, by omega⟩
            have hj8 : j < 8 := by omega
            have hj8i : (j : Int) < 8 := by omega
            obtain ⟨W2, hW2⟩ : ∃ W, W = y.w := ⟨_, rfl⟩
            have hb12 : Below W1.heap.size W1 W2 := by rw [hW2]; exact y.bel
            rw [← hW2]
            have KX2 := HBOX.out.later hb12
            have KBF2 := HBF1.out.later hb12
            have hB2 := HB1.out.trans (hb12.mono HB1.out.size)
            have hbx := KX2.lt
            have HX2 := Lib.hid KX2
            have d0 : W2.cell? ⟨wr.heap.size, 0, none⟩ = some (.int .i64 (j : Int)) := KX2.cell 0
            have d1 : W2.cell? ⟨wr.heap.size, 1, none⟩ = some (.int .i64 xk) := KX2.cell 1
            have d2 : W2.cell? ⟨wr.heap.size, 2, none⟩ = some (.int .i64 xo) := KX2.cell 2
            have d3 : W2.cell? ⟨wr.heap.size, 3, none⟩ = some (.int .i64 xa) := KX2.cell 3
            have d4 : W2.cell? ⟨wr.heap.size, 4, none⟩ = some (.int .i64 xb) := KX2.cell 4
            have d5 : W2.cell? ⟨wr.heap.size, 5, none⟩ = some (.int .i64 xv) := KX2.cell 5
            have d6 : W2.cell? ⟨wr.heap.size, 6, none⟩ = some (.bool xi) := KX2.cell 6
            have d7 : W2.cell? ⟨wr.heap.size, 7, none⟩ = some (.int .i64 xf) := KX2.cell 7
            have d8 : W2.cell? ⟨wr.heap.size, 8, none⟩ = some (.int .i64 xl) := KX2.cell 8
            have d9 : W2.cell? ⟨wr.heap.size, 9, none⟩ = some (.int .i64 xp) := KX2.cell 9
            clear hW2 hb12 KX2
            cases hq : lastOf l (j : Int) k with
            | none =>
              have hbf := befV_at b off l k j hj8
              rw [hq] at hbf
              have HLA : Hid (∀ q (hq : q < l.length), lastOf l (j : Int) k = some q → l[q].last < xf) := Lib.hid fun q hq2 h => by rw [hq] at h; cases h
              have cw : W2.cell? ⟨w.heap.size, j, none⟩ = some (.pointer none) := (KBF2.cell j).trans hbf
              clear hq
              go_wp2_with fail
              refine wp_region_after (by kernel_rfl) (by kernel_rfl) ?_
              repeat (go_big_quiet_step (fail))
              refine wpQuiet_nil ?_
              rintro _ ⟨u, rfl⟩
              clear cw
              obtain ⟨W3, hW3⟩ : ∃ W, W = u.w := ⟨_, rfl⟩
              have hb23 : Below W2.heap.size W2 W3 := by rw [hW3]; exact u.bel
              rw [← hW3]
              have KBF3 := KBF2.later hb23
              have KX3 := HX2.out.later hb23
              have hB3 := hB2.trans (hb23.mono hB2.size)
              clear hW3 hb23 KBF2 hB2 d0 d1 d2 d3 d4 d5 d6 d7 d8 d9 hbx
              have KBF2 := KBF3
              have hB2 := hB3
              have hbx := KX3.lt
              have d0 : W3.cell? ⟨wr.heap.size, 0, none⟩ = some (.int .i64 (j : Int)) := KX3.cell 0
              clear KBF3 hB3 KX3
              have HB2 := Lib.hid hB2
              have KA := Lib.hid KBF2
              have cwj := (KBF2.cell j).trans hbf
              have fwj := KBF2.free j
              have hOK := Lib.hid (OkUpto.step HO.out hkl (by rw [HC.out]; exact HMM.out) (behind_all HO.out hkl (by rw [HC.out]; exact fun h0 => HF.out h0 (by omega)) (by rw [HC.out]; exact HLA.out)))
              have eyd := fun (z : After W3) => (z.cell hbx).trans d0
              clear KBF2 hB2
              go_wp2_with fail
              refine wp_region_after_tail 6 (by kernel_rfl) (by kernel_rfl) ?_
              simp only [List.take_succ_cons, List.take_zero, List.drop_succ_cons, List.drop_zero]
              repeat (go_big_quiet_step (fail))
              refine wpQuiet_nil ?_
              rintro _ ⟨z, rfl⟩
              have KA3 := KA.out.later z.bel
              have cwz := (KA3.cell j).trans hbf
              have fwz := KA3.free j
              have HKA3 := Lib.hid KA3
              have HB3 := Lib.hid (HB2.out.trans (z.bel.mono HB2.out.size))
              clear KA3 eyd cwj fwj
              go_wp2_with fail
              go_roundw
              case rel =>
                refine ⟨k + 1, by simp, by omega, hOK, _, rfl, ?_, HB3.out.setCell (Nat.le_refl _) _⟩
                rw [← befV_put b off l k j hkl hj8 (by rw [HC.out])]
                exact HKA3.out.put j _
              case measure => simp [intOf]; omega
            | some q =>
              have hbf := befV_at b off l k j hj8
              rw [hq] at hbf
              obtain ⟨hql, hqk, hqw, _⟩ := lastOf_some k q hq
              have cw : W2.cell? ⟨w.heap.size, j, none⟩ = some (.pointer (some ⟨b, off + q * 10, none⟩)) := (KBF2.cell j).trans hbf
              have hlb2 : b < W2.heap.size := Nat.lt_of_lt_of_le HLB.out hB2.size
              obtain ⟨d, hd⟩ : ∃ d, l[q] = d := ⟨_, rfl⟩
              have hdi := HALL.out q hql W2 hB2
              rw [hd] at hdi hqw
              obtain ⟨f0, f1, f2, f3, f4, f5, f6, f7, f8, f9⟩ := hdi
              have fy0 := fun (u : After W2) => (u.cell hlb2).trans f0
              have dy0 := fun (u : After W2) => (u.cell hbx).trans d0
              have fy1 := fun (u : After W2) => (u.cell hlb2).trans f1
              have dy1 := fun (u : After W2) => (u.cell hbx).trans d1
              have fy2 := fun (u : After W2) => (u.cell hlb2).trans f2
              have dy2 := fun (u : After W2) => (u.cell hbx).trans d2
              have fy3 := fun (u : After W2) => (u.cell hlb2).trans f3
              have dy3 := fun (u : After W2) => (u.cell hbx).trans d3
              have fy4 := fun (u : After W2) => (u.cell hlb2).trans f4
              have dy4 := fun (u : After W2) => (u.cell hbx).trans d4
              have fy5 := fun (u : After W2) => (u.cell hlb2).trans f5
              have dy5 := fun (u : After W2) => (u.cell hbx).trans d5
              have fy6 := fun (u : After W2) => (u.cell hlb2).trans f6
              have dy6 := fun (u : After W2) => (u.cell hbx).trans d6
              have fy7 := fun (u : After W2) => (u.cell hlb2).trans f7
              have dy7 := fun (u : After W2) => (u.cell hbx).trans d7
              have fy8 := fun (u : After W2) => (u.cell hlb2).trans f8
              have dy8 := fun (u : After W2) => (u.cell hbx).trans d8
              have fy9 := fun (u : After W2) => (u.cell hlb2).trans f9
              have dy9 := fun (u : After W2) => (u.cell hbx).trans d9
              have HAH : Hid (∀ wx, Calls Try.prog 10 #[.agg #[.int .i64 d.who, .int .i64 d.kind, .int .i64 d.obj, .int .i64 d.a, .int .i64 d.b, .int .i64 d.val, .bool d.is, .int .i64 d.first, .int .i64 d.last, .int .i64 d.point], .agg #[.int .i64 (j : Int), .int .i64 xk, .int .i64 xo, .int .i64 xa, .int .i64 xb, .int .i64 xv, .bool xi, .int .i64 xf, .int .i64 xl, .int .i64 xp]] wx fun e w' => e = .returned (.bool (decide (d.last < xf))) ∧ Below wx.heap.size wx w') := Lib.hid fun wx => ahead_any d ⟨(j : Int), xk, xo, xa, xb, xv, xi, xf, xl, xp⟩ wx
              have HQ := Lib.hid hq
              have HD := Lib.hid hd
              have HQW := Lib.hid hqw
              clear hq hd hqw f0 f1 f2 f3 f4 f5 f6 f7 f8 f9
              by_cases hah : d.last < xf
              · have HLA : Hid (∀ q (hq : q < l.length), lastOf l (j : Int) k = some q → l[q].last < xf) := Lib.hid fun q2 hq2 h => by
                  rw [HQ.out] at h; injection h with h; subst h; rw [HD.out]; exact hah
                rw [decide_eq_true hah] at HAH
                clear hah
                go_wp2_with fail
                refine wp_region_after (by kernel_rfl) (by kernel_rfl) ?_
                repeat (go_big_quiet_step ((go_at_call 10; exact calls_after (HAH.out _))))
                refine wpQuiet_nil ?_
                rintro _ ⟨u, rfl⟩
                clear cw fy0 fy1 fy2 fy3 fy4 fy5 fy6 fy7 fy8 fy9 dy0 dy1 dy2 dy3 dy4 dy5 dy6 dy7 dy8 dy9
                obtain ⟨W3, hW3⟩ : ∃ W, W = u.w := ⟨_, rfl⟩
                have hb23 : Below W2.heap.size W2 W3 := by rw [hW3]; exact u.bel
                rw [← hW3]
                have KBF3 := KBF2.later hb23
                have KX3 := HX2.out.later hb23
                have hB3 := hB2.trans (hb23.mono hB2.size)
                clear hW3 hb23 KBF2 hB2 d0 d1 d2 d3 d4 d5 d6 d7 d8 d9 hbx
                have KBF2 := KBF3
                have hB2 := hB3
                have hbx := KX3.lt
                have d0 : W3.cell? ⟨wr.heap.size, 0, none⟩ = some (.int .i64 (j : Int)) := KX3.cell 0
                clear KBF3 hB3 KX3
                have HB2 := Lib.hid hB2
                have KA := Lib.hid KBF2
                have cwj := (KBF2.cell j).trans hbf
                have fwj := KBF2.free j
                have hOK := Lib.hid (OkUpto.step HO.out hkl (by rw [HC.out]; exact HMM.out) (behind_all HO.out hkl (by rw [HC.out]; exact fun h0 => HF.out h0 (by omega)) (by rw [HC.out]; exact HLA.out)))
                have eyd := fun (z : After W3) => (z.cell hbx).trans d0
                clear KBF2 hB2
                go_wp2_with fail
                refine wp_region_after_tail 6 (by kernel_rfl) (by kernel_rfl) ?_
                simp only [List.take_succ_cons, List.take_zero, List.drop_succ_cons, List.drop_zero]
                repeat (go_big_quiet_step (fail))
                refine wpQuiet_nil ?_
                rintro _ ⟨z, rfl⟩
                have KA3 := KA.out.later z.bel
                have cwz := (KA3.cell j).trans hbf
                have fwz := KA3.free j
                have HKA3 := Lib.hid KA3
                have HB3 := Lib.hid (HB2.out.trans (z.bel.mono HB2.out.size))
                clear KA3 eyd cwj fwj
                go_wp2_with fail
                go_roundw
                case rel =>
                  refine ⟨k + 1, by simp, by omega, hOK, _, rfl, ?_, HB3.out.setCell (Nat.le_refl _) _⟩
                  rw [← befV_put b off l k j hkl hj8 (by rw [HC.out])]
                  exact HKA3.out.put j _
                case measure => simp [intOf]; omega
              · have hbv : behindC d ⟨(j : Int), xk, xo, xa, xb, xv, xi, xf, xl, xp⟩ = false := decide_eq_false fun h => hah (h.2 (by rw [HQW.out]))
                have hr := hbeh.out q k hql hkl hqk (by rw [HD.out, HC.out]; exact hbv)
                have HR := Lib.hid hr
                rw [decide_eq_false hah] at HAH
                clear hah hbv hr
                have HB2 := Lib.hid hB2
                clear hB2 KBF2
                go_wp2_with fail
                refine wp_region_after (by kernel_rfl) (by kernel_rfl) ?_
                repeat (go_big_quiet_step ((go_at_call 10; exact calls_after (HAH.out _))))
                refine wpQuiet_nil ?_
                rintro _ ⟨u, rfl⟩
                go_wp2_with fail
                go_ret
                exact ⟨by rw [HR.out]; rfl, HB2.out.trans (u.bel.mono HB2.out.size)⟩
    · obtain rfl : k = n := by omega
      have hr := hyes.out HO.out
      have HR := Lib.hid hr
      have HB := Lib.hid hb
      clear hr hb hKB
      go_wp2_with fail
      go_ret
      exact ⟨by rw [HR.out]; rfl, HB.out⟩
end Go.Proofs.Ytedgliaablokcaa
