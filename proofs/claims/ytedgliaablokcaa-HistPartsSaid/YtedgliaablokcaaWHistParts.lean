/-
  HIST: the law HistParts.
-/
import Derived.Test.YtedgliaablokcaaRows
import Derived.ProofKit
import Derived.Deep.QuietTactic
import Derived.BigQuiet
import Derived.LoopTactic
import Derived.Test.YtedgliaablokcaaHistI
import Derived.Test.YtedgliaablokcaaHistQ
namespace Go.Proofs.Ytedgliaablokcaa
open Go.ChangeShapes Go.WideShapes Go.ChangeAt Go.RowKit

set_option maxRecDepth 100000 in
set_option maxHeartbeats 16000000 in
theorem walkHistParts (a : Option Addr) (cap : Nat) (l : List CallV) (kind obj step : Int) (w : World) (h : Hcs w a l) (hm : l.length ≤ maxLen) (_hk : l.length ≤ cap) (_hn : a = none → cap = 0) (hkind : 0 ≤ kind ∧ kind ≤ 255) (hobj : 0 ≤ obj ∧ obj ≤ 255) (_hstep : -9223372036854775808 ≤ step ∧ step ≤ 9223372036854775807) :
    Calls Try.prog 4 #[.agg #[.slice a l.length cap, .int .u8 kind, .int .u8 obj, .int .i64 step]] w fun e w' => e = .returned (.bool true) ∧ Below w.heap.size w w' := by
  obtain ⟨n, hn⟩ : ∃ n, l.length = n := ⟨_, rfl⟩
  have HN := Lib.hid hn
  have HH := Lib.hid fun wx (hb : Below w.heap.size w wx) => h.later hb
  rw [hn] at hm ⊢
  unfold maxLen at hm
  clear hn h
  obtain ⟨R, hR⟩ : ∃ R, rightB l = R := ⟨_, rfl⟩
  have HR := Lib.hid fun c wx (hb : Below w.heap.size w wx) (hle : n ≤ 1000000) => rright_n l n HN.out R hR a c wx (HH.out wx hb) hle
  have HRR := Lib.hid hR
  clear hR
  obtain ⟨k4, hk4⟩ : ∃ x, kind % 4 = x := ⟨_, rfl⟩
  obtain ⟨o8, ho8⟩ : ∃ x, obj % 8 = x := ⟨_, rfl⟩
  obtain ⟨F1, hF1⟩ : ∃ F, F = fun c : CallV => (kindOf c.kind == k4) && (c.obj == o8) := ⟨_, rfl⟩
  obtain ⟨F2, hF2⟩ : ∃ F, F = fun c : CallV => c.who == o8 := ⟨_, rfl⟩
  obtain ⟨F3, hF3⟩ : ∃ F, F = fun c : CallV => decide (c.last ≤ step) := ⟨_, rfl⟩
  have HO := Lib.hid fun c wx (hb : Below w.heap.size w wx) (hle : n ≤ 1000000) => hof_n l n HN.out a c k4 o8 wx (HH.out wx hb) hle
  have HS := Lib.hid fun c wx (hb : Below w.heap.size w wx) (hle : n ≤ 1000000) => hseat_n l n HN.out a c o8 wx (HH.out wx hb) hle
  have HU := Lib.hid fun c wx (hb : Below w.heap.size w wx) (hle : n ≤ 1000000) => hupto_n l n HN.out a c step wx (HH.out wx hb) hle
  rw [← hF1] at HO
  rw [← hF2] at HS
  rw [← hF3] at HU
  clear hF1 hF2 hF3
  obtain ⟨m1, hm1⟩ : ∃ m, (l.filter F1).length = m := ⟨_, rfl⟩
  obtain ⟨m2, hm2⟩ : ∃ m, (l.filter F2).length = m := ⟨_, rfl⟩
  obtain ⟨m3, hm3⟩ : ∃ m, (l.filter F3).length = m := ⟨_, rfl⟩
  have M1 := Lib.hid hm1
  have M2 := Lib.hid hm2
  have M3 := Lib.hid hm3
  clear hm1 hm2 hm3
  go_enter Try.func4, Try.ntmps4
  go_wp2_with fail
  refine (shown_any _).mono ?_
  rintro e w1 ⟨rfl, hb1⟩
  have hB1 : Below w.heap.size w w1 := (below_alloc1 w _).trans (hb1.mono (below_alloc1 w _).size)
  by_cases hbig : 40 < n
  · have h40 : decide (40 < (n : Int)) = true := by simp; omega
    go_wp2_with fail
    go_ret
    exact ⟨rfl, hB1⟩
  have h40 : decide (40 < (n : Int)) = false := by simp; omega
  go_wp2_with fail
  refine (HR.out _ _ hB1 (by omega)).mono ?_
  rintro e w2 ⟨rfl, hb2⟩
  have hB2 := hB1.trans (hb2.mono hB1.size)
  cases R
  · go_wp2_with fail
    go_ret
    exact ⟨rfl, hB2⟩
  clear hB1 hb1 hb2
  go_wp2_with fail
  refine (HO.out _ _ hB2 (by omega)).mono ?_
  rintro e w3 hp
  obtain ⟨p1, c1, rfl, q1, hb3⟩ := hp.at rfl M1.out
  have hB3 := hB2.trans (hb3.mono hB2.size)
  go_wp2_with fail
  refine (HS.out _ _ hB3 (by omega)).mono ?_
  rintro e w4 hp
  obtain ⟨p2, c2, rfl, q2, hb4⟩ := hp.at rfl M2.out
  have hB4 := hB3.trans (hb4.mono hB3.size)
  go_wp2_with fail
  refine (HU.out _ _ hB4 (by omega)).mono ?_
  rintro e w5 hp
  obtain ⟨p3, c3, rfl, q3, hb5⟩ := hp.at rfl M3.out
  have hB5 := hB4.trans (hb5.mono hB4.size)
  obtain ⟨W, hW⟩ : ∃ W, W = w5.alloc (Obj.cells #[.slice p1 m1 c1, .slice p2 m2 c2, .slice p3 m3 c3] 22) := ⟨_, rfl⟩
  have hBW : Below w.heap.size w W := by rw [hW]; exact hB5.alloc hB5.size _
  have KG : Blk W w5.heap.size 22 #[.slice p1 m1 c1, .slice p2 m2 c2, .slice p3 m3 c3] := by rw [hW]; exact Blk.made _ _ _
  have hb5W : Below w5.heap.size w5 W := by rw [hW]; exact below_alloc1 _ _
  have r1 := ((q1.later (below_trans hb4 hb5)).later hb5W)
  have r2 := ((q2.later hb5).later hb5W)
  have r3 := (q3.later hb5W)
  have HPT : Hid (∀ wx, Below W.heap.size W wx → ∀ i, i < 3 → ∃ F m p c, wx.cell? ⟨w5.heap.size, i, none⟩ = some (.slice p m c) ∧ Hid ((l.filter F).length = m) ∧ Hcs wx p (l.filter F) ∧ m ≤ n) := Lib.hid fun wx hx i hi => by
    have KGx := KG.later hx
    rcases (show i = 0 ∨ i = 1 ∨ i = 2 by omega) with rfl | rfl | rfl
    · exact ⟨F1, m1, p1, c1, KGx.cell 0, M1, r1.later hx, by rw [← M1.out]; exact filter_le _ _ _ HN.out⟩
    · exact ⟨F2, m2, p2, c2, KGx.cell 1, M2, r2.later hx, by rw [← M2.out]; exact filter_le _ _ _ HN.out⟩
    · exact ⟨F3, m3, p3, c3, KGx.cell 2, M3, r3.later hx, by rw [← M3.out]; exact filter_le _ _ _ HN.out⟩
  have HW := Lib.hid hW
  have HBW := Lib.hid hBW
  have hgd := hcGuard
  clear hW hBW KG hb5W r1 r2 r3 q1 q2 q3 hb3 hb4 hb5 hB2 hB3 hB4 hB5
  go_wp2_with fail
  rw [← HW.out]
  go_loopw [9] (fun i wr => ∃ j : Nat, i = .int .i64 j ∧ j ≤ 3 ∧ ∃ W', W' = wr ∧ Below W.heap.size W W') (fun i _ => 3 - (intOf i).toNat)
  case atStart => exact ⟨0, rfl, by omega, _, rfl, Below.refl _ _⟩
  case round =>
    obtain ⟨j, rfl, hj, wr, rfl, hb⟩ := hrel
    by_cases hlt : j < 3
    · obtain ⟨F, m, p, c, hcell, HM, hpart, hmn⟩ := HPT.out wr hb j hlt
      have hji : (j : Int) < 3 := by omega
      have hbw := HBW.out.trans (hb.mono HBW.out.size)
      have hl := HH.out wr hbw
      have HB := Lib.hid hb
      have HBw := Lib.hid hbw
      have HRP := Lib.hid fun p c wx hx hle => right_n (l.filter F) m HM.out true (right_part HRR.out F) p c wx hx hle
      clear hb hbw
      go_wp2_with fail
      go_loopw [10, 11] (fun t10 t11 wr2 => ∃ (at_ k x : Nat), t10 = .int .i64 at_ ∧ t11 = .int .i64 k ∧ k ≤ m ∧ at_ ≤ n ∧ Hid ((l.take at_).filter F = (l.filter F).take k) ∧ wr2 = wr.drewN x) (fun _ t11 _ => m - (intOf t11).toNat)
      case atStart => exact ⟨0, 0, 0, rfl, rfl, by omega, by omega, Lib.hid (by simp), rfl⟩
      case round =>
        obtain ⟨at_, k, x, rfl, rfl, hk, ha, HI, rfl⟩ := hrel
        by_cases hkm : k < m
        · have hkl : k < (l.filter F).length := by rw [HM.out]; exact hkm
          have han : at_ < n := by have := emb_lt F l (by rw [HN.out]; exact ha) HI.out hkl; rw [HN.out] at this; exact this
          obtain ⟨b2, o2, hp2, hlb2, hat2⟩ := hpart.at_ k hkl
          obtain ⟨b1, o1, hp1, hlb1, hall⟩ := hl.opened (by rw [HN.out]; omega)
          obtain ⟨y0, hy0⟩ : ∃ v, (l.filter F)[k] = v := ⟨_, rfl⟩
          rw [hy0] at hat2
          obtain ⟨f0, f1, f2, f3, f4, f5, f6, f7, f8, f9⟩ := hat2
          have HY0 := Lib.hid hy0
          have HALL := Lib.hid hall
          clear hy0 hall
          subst hp1
          subst hp2
          go_wp2_with fail
          go_loopw [10] (fun t10 wr3 => ∃ (at_ x : Nat), t10 = .int .i64 at_ ∧ at_ < n ∧ Hid ((l.take at_).filter F = (l.filter F).take k) ∧ wr3 = wr.drewN x) (fun t10 _ => n - (intOf t10).toNat)
          case atStart => exact ⟨at_, x, rfl, han, HI, rfl⟩
          case round =>
            clear han HI ha
            obtain ⟨at_, x, rfl, han, HI, rfl⟩ := hrel
            have hal : at_ < l.length := by rw [HN.out]; exact han
            obtain ⟨x0, hx0⟩ : ∃ v, l[at_] = v := ⟨_, rfl⟩
            have hat1 := HALL.out at_ hal
            rw [hx0] at hat1
            obtain ⟨g0, g1, g2, g3, g4, g5, g6, g7, g8, g9⟩ := hat1
            have HX0 := Lib.hid hx0
            clear hx0
            have hani : (at_ : Int) < n := by omega
            by_cases hxy : x0 = y0
            · have heq : ∀ wx, (Op.equalIn 10000 30 (.agg #[.int .i64 x0.who, .int .i64 x0.kind, .int .i64 x0.obj, .int .i64 x0.a, .int .i64 x0.b, .int .i64 x0.val, .bool x0.is, .int .i64 x0.first, .int .i64 x0.last, .int .i64 x0.point]) (.agg #[.int .i64 y0.who, .int .i64 y0.kind, .int .i64 y0.obj, .int .i64 y0.a, .int .i64 y0.b, .int .i64 y0.val, .bool y0.is, .int .i64 y0.first, .int .i64 y0.last, .int .i64 y0.point])).run Try.prog wx = .ok true wx := fun wx => by rw [hcEq, decide_eq_true hxy]
              have HI2 := Lib.hid (emb_hit F l hal HI.out hkl (by rw [HX0.out, HY0.out]; exact hxy))
              have hne : ((at_ : Int) == n) = false := by simp; omega
              clear hxy
              go_wp2_with fail
              go_quiet (fail)
              clear heq
              go_wp2_with fail
              go_roundw
              case rel => exact ⟨at_ + 1, k + 1, x + nq, by simp, by simp, by omega, by omega, HI2, rfl⟩
              case measure => simp [intOf]; omega
            · have heq : ∀ wx, (Op.equalIn 10000 30 (.agg #[.int .i64 x0.who, .int .i64 x0.kind, .int .i64 x0.obj, .int .i64 x0.a, .int .i64 x0.b, .int .i64 x0.val, .bool x0.is, .int .i64 x0.first, .int .i64 x0.last, .int .i64 x0.point]) (.agg #[.int .i64 y0.who, .int .i64 y0.kind, .int .i64 y0.obj, .int .i64 y0.a, .int .i64 y0.b, .int .i64 y0.val, .bool y0.is, .int .i64 y0.first, .int .i64 y0.last, .int .i64 y0.point])).run Try.prog wx = .ok false wx := fun wx => by rw [hcEq, decide_eq_false hxy]
              have HI2 := Lib.hid (emb_skip F l hal HI.out hkl (by rw [HX0.out, HY0.out]; exact hxy))
              have han2 : at_ + 1 < n := by have := emb_lt F l (by rw [HN.out]; omega) HI2.out hkl; rw [HN.out] at this; exact this
              clear hxy
              go_wp2_with fail
              go_quiet (fail)
              clear heq
              go_wp2_with fail
              go_roundw
              case rel => exact ⟨at_ + 1, x + nq, by simp, han2, HI2, rfl⟩
              case measure => simp [intOf]; omega
        · go_wp2_with fail
          refine (HRP.out _ _ _ (hpart.drawn x) (by omega)).mono ?_
          rintro e w7 ⟨rfl, hb7⟩
          have hbn := HB.out.trans ((below_drewN (Below.refl _ wr) x).mono HB.out.size)
          have hbn2 := hbn.trans (hb7.mono (by have := hbn.size; simpa using this))
          have HB7 := Lib.hid hbn2
          clear hbn hbn2 hb7
          go_wp2_with fail
          go_roundw
          case rel => exact ⟨j + 1, by simp, by omega, _, rfl, HB7.out⟩
          case measure => simp [intOf]; omega
    · have hbw := HBW.out.trans (hb.mono HBW.out.size)
      have hji : decide ((j : Int) < 3) = false := by simp; omega
      go_wp2_with fail
      go_ret
      exact ⟨rfl, hbw⟩
end Go.Proofs.Ytedgliaablokcaa
