/-
  LAYOUT: the law LayoutRings.
-/
import Derived.Test.YtbaeckehchpfaaaRows
import Derived.ProofKit
import Derived.Test.YtbaeckehchpfaaaLayS
import Derived.Test.YtbaeckehchpfaaaLayO
import Derived.Test.YtbaeckehchpfaaaLayQ
namespace Go.Proofs.Ytbaeckehchpfaaa
open Go.ChangeShapes Go.WideShapes Go.ChangeAt Go.RowKit

theorem ints_one2 (Y : Array Value) (hY : IntCells Y 25) : Y.all (·.oneCell') = true := by
  rw [Array.all_eq_true_iff_forall_mem]
  intro v hv
  obtain ⟨j, hj, he⟩ := Array.mem_iff_getElem.1 hv
  obtain ⟨a, ha⟩ := hY.2 j (by rw [← hY.1]; exact hj)
  rw [Array.getElem?_eq_getElem hj] at ha
  injection ha with ha
  rw [← he, ha]; rfl

set_option maxRecDepth 100000 in
set_option maxHeartbeats 20000000 in
theorem walkLayoutRings (s n b sl t ce ma st ch k : Int) (w : World) (_hs : -9223372036854775808 ≤ s ∧ s ≤ 9223372036854775807) (_hn : -9223372036854775808 ≤ n ∧ n ≤ 9223372036854775807) (_hb : -9223372036854775808 ≤ b ∧ b ≤ 9223372036854775807) (_hsl : -9223372036854775808 ≤ sl ∧ sl ≤ 9223372036854775807) (_ht : -9223372036854775808 ≤ t ∧ t ≤ 9223372036854775807) (_hce : -9223372036854775808 ≤ ce ∧ ce ≤ 9223372036854775807) (_hma : -9223372036854775808 ≤ ma ∧ ma ≤ 9223372036854775807) (_hst : -9223372036854775808 ≤ st ∧ st ≤ 9223372036854775807) (_hch : -9223372036854775808 ≤ ch ∧ ch ≤ 9223372036854775807) (hk : 0 ≤ k ∧ k ≤ 255) :
    Calls Try.prog 6 #[.agg #[.int .i64 s, .int .i64 n, .int .i64 b, .int .i64 sl, .int .i64 t, .int .i64 ce, .int .i64 ma, .int .i64 st, .int .i64 ch], .int .u8 k] w fun e w' => e = .returned (.bool true) ∧ Below w.heap.size w w' := by
  obtain ⟨V, hV⟩ : ∃ V, V = w.alloc (Obj.cells #[.int .i64 s, .int .i64 n, .int .i64 b, .int .i64 sl, .int .i64 t, .int .i64 ce, .int .i64 ma, .int .i64 st, .int .i64 ch] 23) := ⟨_, rfl⟩
  have hbV : Below w.heap.size w V := by rw [hV]; exact (Below.refl _ w).alloc (Nat.le_refl _) _
  have KC : Blk V w.heap.size 23 #[.int .i64 s, .int .i64 n, .int .i64 b, .int .i64 sl, .int .i64 t, .int .i64 ce, .int .i64 ma, .int .i64 st, .int .i64 ch] := by rw [hV]; exact Blk.made w _ _
  have HV := Lib.hid hV
  have HBV := Lib.hid hbV
  clear hV hbV
  by_cases hok : ConfOk s n b sl t ce ma st ch
  case neg =>
    have HO := Lib.hid fun w => rof_no s n b sl t ce ma st ch hok w
    unfold confC at HO
    obtain ⟨ZZ, hZZ⟩ : ∃ ZZ, ZZ = zeroL := ⟨_, rfl⟩
    rw [← hZZ] at HO
    have hZ25 : Hid (ZZ.size = 25) := Lib.hid (by rw [hZZ]; rfl)
    have hZOn : Hid (ZZ.all (·.oneCell') = true) := Lib.hid (by rw [hZZ]; exact ints_one2 _ zeroL_cells)
    have hZi : Hid ((Try.prog.info? 26).map (·.size) = some ZZ.size) := Lib.hid (by rw [hZZ]; exact lay25)
    clear hZZ hok
    go_enter Try.func6, Try.ntmps6
    go_wp2_with fail
    rw [← HV.out]
    refine (shown_any V).mono ?_
    rintro e w0 ⟨rfl, hb0⟩
    have K0 := KC.later hb0
    have c0 : w0.cell? ⟨w.heap.size, 0, none⟩ = some (.int .i64 s) := K0.cell 0
    have c1 : w0.cell? ⟨w.heap.size, 1, none⟩ = some (.int .i64 n) := K0.cell 1
    have c2 : w0.cell? ⟨w.heap.size, 2, none⟩ = some (.int .i64 b) := K0.cell 2
    have c3 : w0.cell? ⟨w.heap.size, 3, none⟩ = some (.int .i64 sl) := K0.cell 3
    have c4 : w0.cell? ⟨w.heap.size, 4, none⟩ = some (.int .i64 t) := K0.cell 4
    have c5 : w0.cell? ⟨w.heap.size, 5, none⟩ = some (.int .i64 ce) := K0.cell 5
    have c6 : w0.cell? ⟨w.heap.size, 6, none⟩ = some (.int .i64 ma) := K0.cell 6
    have c7 : w0.cell? ⟨w.heap.size, 7, none⟩ = some (.int .i64 st) := K0.cell 7
    have c8 : w0.cell? ⟨w.heap.size, 8, none⟩ = some (.int .i64 ch) := K0.cell 8
    go_wp2_with fail
    refine (HO.out _).mono ?_
    rintro e w1 ⟨rfl, hb1⟩
    have HN := Blk.made w1 26 #[.int .i64 0, .int .i64 0, .int .i64 0, .int .i64 0, .int .i64 0, .int .i64 0, .int .i64 0, .int .i64 0, .int .i64 0, .int .i64 0, .int .i64 0, .int .i64 0, .int .i64 0, .int .i64 0, .int .i64 0, .int .i64 0, .int .i64 0, .int .i64 0, .int .i64 0, .int .i64 0, .int .i64 0, .int .i64 0, .int .i64 0, .int .i64 0, .int .i64 0]
    have hth1 : Hid ((w1.alloc (Obj.cells #[.int .i64 0, .int .i64 0, .int .i64 0, .int .i64 0, .int .i64 0, .int .i64 0, .int .i64 0, .int .i64 0, .int .i64 0, .int .i64 0, .int .i64 0, .int .i64 0, .int .i64 0, .int .i64 0, .int .i64 0, .int .i64 0, .int .i64 0, .int .i64 0, .int .i64 0, .int .i64 0, .int .i64 0, .int .i64 0, .int .i64 0, .int .i64 0, .int .i64 0] 26)).there w1.heap.size 0 ZZ.size) := Lib.hid fun j hj => by
      rw [Nat.zero_add]
      obtain ⟨u, hu⟩ := HN.has j (by rw [hZ25.out] at hj; exact hj)
      exact ⟨by rw [hu]; rfl, HN.free j⟩
    have hb01 := below_trans hb0 hb1
    have hbW : Below V.heap.size V ((w1.alloc (Obj.cells #[.int .i64 0, .int .i64 0, .int .i64 0, .int .i64 0, .int .i64 0, .int .i64 0, .int .i64 0, .int .i64 0, .int .i64 0, .int .i64 0, .int .i64 0, .int .i64 0, .int .i64 0, .int .i64 0, .int .i64 0, .int .i64 0, .int .i64 0, .int .i64 0, .int .i64 0, .int .i64 0, .int .i64 0, .int .i64 0, .int .i64 0, .int .i64 0, .int .i64 0] 26)).setCells w1.heap.size 0 ZZ.toList) := (hb01.alloc hb01.size _).trans (Lib.below_setCells_w hb01.size _ _ _)
    have HBW := Lib.hid hbW
    clear HN hb0 hb1 hb01 hbW c0 c1 c2 c3 c4 c5 c6 c7 c8 K0
    go_wp2_with ((with_reducible (show wpList _ _ _ ({ dst := none, op := Op.store 26 _ _, type := _, pos := _, after := _, guard := none } :: _) _ _)); refine wpList_store_mid rfl 26 _ _ rfl w1.heap.size 0 ZZ rfl rfl hth1.out hZi.out hZOn.out ?_)
    go_ret
    exact ⟨rfl, HBV.out.trans (HBW.out.mono HBV.out.size)⟩
  have HO := Lib.hid fun w => rof_ok s n b sl t ce ma st ch hok w
  have htt := hok.may.ht
  have hss := hok.may.hs
  obtain ⟨g, hg⟩ : ∃ g, g = 4 + 8 * s := ⟨_, rfl⟩
  obtain ⟨q, hq⟩ : ∃ q, Int.tmod k s = q := ⟨_, rfl⟩
  have hq2 : 0 ≤ q ∧ q < s := by
    rw [Int.tmod_eq_emod_of_nonneg hk.1] at hq
    rw [← hq]; exact ⟨Int.emod_nonneg _ (by omega), Int.emod_lt_of_pos _ (by omega)⟩
  have hqe : k % s = q := by rw [Int.tmod_eq_emod_of_nonneg hk.1] at hq; exact hq
  have hs0 : s ≠ 0 := by omega
  obtain ⟨X, hX⟩ : ∃ X, X = layV s n b sl t ce ma st ch := ⟨_, rfl⟩
  rw [← hX] at HO
  have hXc : IntCells X 25 := by rw [hX]; exact layC_cells ..
  have HRL := Lib.hid fun seat r w => ring_lay X s t g seat r hXc.1 (by rw [hX]; rfl) (by rw [hX]; rfl) (by rw [hX, hg]; rfl) hss (by omega) w
  have HRS := Lib.hid fun w => rings_lay X t (by rw [hX]; rfl) w
  have hrl := rings_le t
  have hen := fun r h0 h1 => enough_at t r htt h0 h1
  have hin := fun seat r h1 h2 h3 h4 => ringV_in s t g seat r h1 h2 h3 h4
  have hout := fun seat r h => ringV_out s t g seat r h
  obtain ⟨R, hR⟩ : ∃ R, ringsP t = R := ⟨_, rfl⟩
  obtain ⟨C, hC⟩ : ∃ C, cellsP R = C := ⟨_, rfl⟩
  have hc5 := cells_le R (by omega)
  rw [hR] at HRS hrl hen hin hout
  rw [hC] at hin hc5
  obtain ⟨P, hP⟩ : ∃ P, q * C = P := ⟨_, rfl⟩
  have hP2 : 0 ≤ P ∧ P ≤ 1000 := by
    rw [← hP]
    exact ⟨Int.mul_nonneg hq2.1 hc5.1, by have := Int.mul_le_mul (show q ≤ 8 by omega) hc5.2 hc5.1 (by omega); omega⟩
  have hX18 : X[18]? = some (.int .i64 (g + s * C)) := by rw [hX, hg, ← hC, ← hR]; rfl
  have hlast : cellsP (R - 1) + sizeP (R - 1) = C := by
    have := cells_more (R - 1) (by omega) (by omega)
    rw [show R - 1 + 1 = R by omega, hC] at this; exact this.symm
  have hx25 : Hid (X.size = 25) := Lib.hid hXc.1
  have hxOn : Hid (X.all (·.oneCell') = true) := Lib.hid (ints_one2 _ hXc)
  have hxi : Hid ((Try.prog.info? 26).map (·.size) = some X.size) := Lib.hid (by rw [hXc.1]; exact lay25)
  have hxj : Hid ((Try.prog.info? 26).map (·.size) = some X.toList.length) := Lib.hid (by rw [Array.length_toList, hXc.1]; exact lay25)
  have HX18 := Lib.hid hX18
  have HEN := Lib.hid hen
  have HIN := Lib.hid hin
  have HOUT := Lib.hid hout
  have HLAST := Lib.hid hlast
  have HP := Lib.hid hP
  have hgb : 12 ≤ g ∧ g ≤ 68 := by omega
  have hsp := fun r => size_le r
  clear hX hok hXc hX18 hen hin hout hlast hP hR hC hg
  go_enter Try.func6, Try.ntmps6
  go_wp2_with fail
  rw [← HV.out]
  refine (shown_any V).mono ?_
  rintro e w0 ⟨rfl, hb0⟩
  have K0 := KC.later hb0
  have c0 : w0.cell? ⟨w.heap.size, 0, none⟩ = some (.int .i64 s) := K0.cell 0
  have c1 : w0.cell? ⟨w.heap.size, 1, none⟩ = some (.int .i64 n) := K0.cell 1
  have c2 : w0.cell? ⟨w.heap.size, 2, none⟩ = some (.int .i64 b) := K0.cell 2
  have c3 : w0.cell? ⟨w.heap.size, 3, none⟩ = some (.int .i64 sl) := K0.cell 3
  have c4 : w0.cell? ⟨w.heap.size, 4, none⟩ = some (.int .i64 t) := K0.cell 4
  have c5 : w0.cell? ⟨w.heap.size, 5, none⟩ = some (.int .i64 ce) := K0.cell 5
  have c6 : w0.cell? ⟨w.heap.size, 6, none⟩ = some (.int .i64 ma) := K0.cell 6
  have c7 : w0.cell? ⟨w.heap.size, 7, none⟩ = some (.int .i64 st) := K0.cell 7
  have c8 : w0.cell? ⟨w.heap.size, 8, none⟩ = some (.int .i64 ch) := K0.cell 8
  go_wp2_with fail
  refine (HO.out _).mono ?_
  rintro e w1 ⟨rfl, hb1⟩
  clear c0 c1 c2 c3 c4 c5 c6 c7 c8
  have K1 := K0.later hb1
  have HN := Blk.made w1 26 #[.int .i64 0, .int .i64 0, .int .i64 0, .int .i64 0, .int .i64 0, .int .i64 0, .int .i64 0, .int .i64 0, .int .i64 0, .int .i64 0, .int .i64 0, .int .i64 0, .int .i64 0, .int .i64 0, .int .i64 0, .int .i64 0, .int .i64 0, .int .i64 0, .int .i64 0, .int .i64 0, .int .i64 0, .int .i64 0, .int .i64 0, .int .i64 0, .int .i64 0]
  have hth1 : Hid ((w1.alloc (Obj.cells #[.int .i64 0, .int .i64 0, .int .i64 0, .int .i64 0, .int .i64 0, .int .i64 0, .int .i64 0, .int .i64 0, .int .i64 0, .int .i64 0, .int .i64 0, .int .i64 0, .int .i64 0, .int .i64 0, .int .i64 0, .int .i64 0, .int .i64 0, .int .i64 0, .int .i64 0, .int .i64 0, .int .i64 0, .int .i64 0, .int .i64 0, .int .i64 0, .int .i64 0] 26)).there w1.heap.size 0 X.size) := Lib.hid fun j hj => by
    rw [Nat.zero_add]
    obtain ⟨u, hu⟩ := HN.has j (by rw [hx25.out] at hj; exact hj)
    exact ⟨by rw [hu]; rfl, HN.free j⟩
  have hb01 := below_trans hb0 hb1
  obtain ⟨W1, hW1⟩ : ∃ W, W = (w1.alloc (Obj.cells #[.int .i64 0, .int .i64 0, .int .i64 0, .int .i64 0, .int .i64 0, .int .i64 0, .int .i64 0, .int .i64 0, .int .i64 0, .int .i64 0, .int .i64 0, .int .i64 0, .int .i64 0, .int .i64 0, .int .i64 0, .int .i64 0, .int .i64 0, .int .i64 0, .int .i64 0, .int .i64 0, .int .i64 0, .int .i64 0, .int .i64 0, .int .i64 0, .int .i64 0] 26)).setCells w1.heap.size 0 X.toList := ⟨_, rfl⟩
  have KX : Blk W1 w1.heap.size 26 X := by rw [hW1]; exact HN.put_whole X.toList (by rw [Array.length_toList, hx25.out]; rfl)
  have lK := K1.lt
  have n1 : w.heap.size ≠ w1.heap.size := by omega
  have KW : Blk W1 w.heap.size 23 #[.int .i64 s, .int .i64 n, .int .i64 b, .int .i64 sl, .int .i64 t, .int .i64 ce, .int .i64 ma, .int .i64 st, .int .i64 ch] := by rw [hW1]; exact Blk.farAll (w := w) n1 _ _ (K1.alloc _)
  have hbW : Below V.heap.size V W1 := by rw [hW1]; exact (hb01.alloc hb01.size _).trans (Lib.below_setCells_w hb01.size _ _ _)
  have HW1 := Lib.hid hW1
  have HBW := Lib.hid hbW
  have hra : Hid (∀ wx, Below W1.heap.size W1 wx → World.rangeAt wx w1.heap.size 0 X.toList) := Lib.hid fun wx hx j v hv => by rw [Nat.zero_add, (KX.later hx).cell]; simpa using hv
  have hcx : Hid (∀ wx, Below W1.heap.size W1 wx → wx.cell? ⟨w.heap.size, 0, none⟩ = some (.int .i64 s) ∧ wx.cell? ⟨w.heap.size, 4, none⟩ = some (.int .i64 t) ∧ wx.cell? ⟨w1.heap.size, 18, none⟩ = some (.int .i64 (g + s * C))) := Lib.hid fun wx hx =>
    ⟨(KW.later hx).cell 0, (KW.later hx).cell 4, ((KX.later hx).cell 18).trans HX18.out⟩
  clear hW1 HN hb0 hb1 hb01 K0 K1 KX KW hbW n1 lK
  obtain ⟨x0, x4, x18⟩ := hcx.out W1 (Below.refl _ _)
  go_wp2_with (first
    | ((with_reducible (show wpList _ _ _ ({ dst := none, op := Op.store 26 _ _, type := _, pos := _, after := _, guard := none } :: _) _ _)); refine wpList_store_mid rfl 26 _ _ rfl w1.heap.size 0 X rfl rfl hth1.out hxi.out hxOn.out ?_; rw [← HW1.out])
    | (with_reducible (show wpList _ _ _ ({ dst := _, op := Op.load 26 _, type := _, pos := _, after := _, guard := none } :: _) _ _); refine wpList_load_mid rfl 26 _ rfl w1.heap.size 0 rfl X.toList _ (hra.out _ (Below.refl _ _)) layFields rfl hxj.out ?_))
  refine (HRS.out _).mono ?_
  rintro e w2 ⟨rfl, hb2⟩
  clear x0 x4 x18
  go_wp2_with fail
  go_loopw [10, 11] (fun z i wr => ∃ r : Nat, i = .int .i64 r ∧ (r : Int) + 1 ≤ R ∧ z = .int .i64 (sizeP r) ∧ Below W1.heap.size W1 wr) (fun _ i _ => 6 - (intOf i).toNat)
  case atStart => exact ⟨0, rfl, by omega, rfl, hb2⟩
  case round =>
    obtain ⟨r, rfl, hrR, rfl, hbr⟩ := hrel
    rename_i wr
    obtain ⟨x0, x4, x18⟩ := hcx.out wr hbr
    have hzb := hsp r
    by_cases hlt : (r : Int) + 1 < R
    · have hno : decide (t ≤ sizeP r) = false := by
        rw [HEN.out r (by omega) (by omega)]; simp; omega
      have hr1 := HIN.out q (r + 1) hq2.1 hq2.2 (by omega) hlt
      have hr0 := HIN.out q r hq2.1 hq2.2 (by omega) (by omega)
      have hcm := cells_more r (by omega) (by omega)
      have hst := size_twice r (by omega) (by omega)
      have hcr := cells_le r (by omega)
      have hR1 := HRL.out q (r + 1)
      have hR0 := HRL.out q r
      rw [HP.out] at hr1 hr0
      rw [hr1, hcm] at hR1
      rw [hr0] at hR0
      obtain ⟨zz, hzz⟩ : ∃ z, sizeP r = z := ⟨_, rfl⟩
      obtain ⟨cr, hcrz⟩ : ∃ z, cellsP r = z := ⟨_, rfl⟩
      rw [hzz] at hno hst hzb hR1 ⊢
      rw [hcrz] at hcr hR0 hR1
      have hR1' : ∀ w, Calls Try.prog 18 #[.agg X, .int .i64 q, .int .i64 (r + 1)] w fun e w' => e = .returned (.int .i64 (g + P + cr + zz)) ∧ Below w.heap.size w w' := by
        rw [show g + P + cr + zz = g + P + (cr + zz) by omega]; exact hR1
      have HR1 := Lib.hid hR1'
      have HR0 := Lib.hid hR0
      have HST := Lib.hid hst
      have hlt2 : decide ((r : Int) + 1 < R) = true := by simp; exact hlt
      clear hr1 hr0 hcm hst hR1 hR1' hR0 hzz hcrz
      go_wp2_with fail
      have y4 : ∀ y : After wr, y.w.cell? ⟨w.heap.size, 4, none⟩ = some (.int .i64 t) := fun y => (hcx.out y.w (below_trans hbr y.bel)).2.1
      have hrx : Hid (∀ w', (∃ x : After wr, w' = x.w) → World.rangeAt w' w1.heap.size 0 X.toList) := Lib.hid fun w' ⟨x, hx⟩ => by
        subst hx; exact hra.out _ (below_trans hbr x.bel)
      have e1 : IntKind.i64.wrap ((r : Int) + 1) = r + 1 := by rw [IntKind.wrap_i64]; omega
      have e2 : IntKind.i64.wrap (g + P + cr + zz) = g + P + cr + zz := by rw [IntKind.wrap_i64]; omega
      refine wp_region_after (by kernel_rfl) (by kernel_rfl) ?_
      repeat (first
        | (with_reducible (show wpQuiet _ _ _ _ ({ dst := _, op := Op.load 26 _, type := _, pos := _, after := _, guard := _ } :: _) _); go_big_quiet_want; refine quiet_load_K 26 _ rfl w1.heap.size 0 rfl X.toList _ hrx.out layFields rfl hxj.out ?_; go_simp; go_big_quiet_on)
        | (go_big_quiet_step (first
          | (go_at_call 18; with_reducible exact calls_after (HR1.out _))
          | (go_at_call 18; with_reducible exact calls_after (HR0.out _)))))
      refine wpQuiet_nil ?_
      rintro _ ⟨y, rfl⟩
      clear e1 e2 y4 hlt2
      have hby := below_trans hbr y.bel
      go_wp2_with fail
      go_roundw
      case rel => exact ⟨r + 1, by simp, by omega, by rw [show ((r + 1 : Nat) : Int) = r + 1 by simp, HST.out], hby⟩
      case measure => simp [intOf]; omega
    · have hrr : (r : Int) = R - 1 := by omega
      have hyes : decide (t ≤ sizeP r) = true := by
        rw [HEN.out r (by omega) (by omega)]; simp; omega
      have hr0 := HIN.out q r hq2.1 hq2.2 (by omega) (by omega)
      have hR0 := HRL.out q r
      have hRR := HRL.out q R
      have hla := HLAST.out
      rw [← hrr] at hla
      rw [HP.out] at hr0
      rw [hr0] at hR0
      rw [HOUT.out q R (by omega)] at hRR
      have hN := HRL.out (q + 1) 0
      have hcr := cells_le r (by omega)
      obtain ⟨zz, hzz⟩ : ∃ z, sizeP r = z := ⟨_, rfl⟩
      obtain ⟨cr, hcrz⟩ : ∃ z, cellsP r = z := ⟨_, rfl⟩
      rw [hzz] at hyes hzb hla ⊢
      rw [hcrz] at hR0 hla hcr
      have hRm : R - 1 = r := hrr.symm
      have hcase : (decide (q + 1 < s) = true ∧ (∀ w, Calls Try.prog 18 #[.agg X, .int .i64 (q + 1), .int .i64 0] w fun e w' => e = .returned (.int .i64 (g + P + C)) ∧ Below w.heap.size w w')) ∨ (decide (q + 1 < s) = false ∧ g + s * C = g + P + C) := by
        by_cases h : q + 1 < s
        · refine .inl ⟨by simp; exact h, ?_⟩
          have h1 := HIN.out (q + 1) 0 (by omega) h (by omega) (by omega)
          rw [Int.add_mul, HP.out, Int.one_mul, show cellsP 0 = 0 from rfl, show g + (P + C) + 0 = g + P + C by omega] at h1
          rw [h1] at hN; exact hN
        · refine .inr ⟨by simp; omega, ?_⟩
          rw [show s = q + 1 by omega, Int.add_mul, HP.out, Int.one_mul]; omega
      have HR0 := Lib.hid hR0
      have HRR := Lib.hid hRR
      have hpc : g + P + cr + zz = g + P + C := by omega
      have HPC := Lib.hid hpc
      have hlt2 : decide ((r : Int) + 1 < R) = false := by simp; omega
      clear hr0 hR0 hRR hN hla hrr hzz hcrz hpc hsp
      rcases hcase with ⟨d1, hN⟩ | ⟨d1, hN⟩
      · have HN := Lib.hid hN
        clear hN
        go_wp2_with (first | (with_reducible (show wpList _ _ _ ({ dst := _, op := Op.load 26 _, type := _, pos := _, after := _, guard := none } :: _) _ _); refine wpList_load_mid rfl 26 _ rfl w1.heap.size 0 rfl X.toList _ (hra.out _ (hbr)) layFields rfl hxj.out ?_) | (with_reducible (show wpList _ _ _ ({ dst := _, op := Op.load 26 _, type := _, pos := _, after := _, guard := some _ } :: _) _ _); refine wpList_load_mid_g rfl 26 _ rfl w1.heap.size 0 rfl X.toList _ (hra.out _ (hbr)) layFields rfl hxj.out ?_))
        refine (HN.out _).mono ?_
        rintro e w3 ⟨rfl, hb3⟩
        have B3 := below_trans hbr hb3
        obtain ⟨x0', x4', x18'⟩ := hcx.out w3 B3
        clear x0 x4 x18
        rw [← HPC.out]
        go_wp2_with (first | (with_reducible (show wpList _ _ _ ({ dst := _, op := Op.load 26 _, type := _, pos := _, after := _, guard := none } :: _) _ _); refine wpList_load_mid rfl 26 _ rfl w1.heap.size 0 rfl X.toList _ (hra.out _ (B3)) layFields rfl hxj.out ?_) | (with_reducible (show wpList _ _ _ ({ dst := _, op := Op.load 26 _, type := _, pos := _, after := _, guard := some _ } :: _) _ _); refine wpList_load_mid_g rfl 26 _ rfl w1.heap.size 0 rfl X.toList _ (hra.out _ (B3)) layFields rfl hxj.out ?_))
        refine (HR0.out _).mono ?_
        rintro e w4 ⟨rfl, hb4⟩
        have B4 := below_trans B3 hb4
        go_wp2_with (first | (with_reducible (show wpList _ _ _ ({ dst := _, op := Op.load 26 _, type := _, pos := _, after := _, guard := none } :: _) _ _); refine wpList_load_mid rfl 26 _ rfl w1.heap.size 0 rfl X.toList _ (hra.out _ (B4)) layFields rfl hxj.out ?_) | (with_reducible (show wpList _ _ _ ({ dst := _, op := Op.load 26 _, type := _, pos := _, after := _, guard := some _ } :: _) _ _); refine wpList_load_mid_g rfl 26 _ rfl w1.heap.size 0 rfl X.toList _ (hra.out _ (B4)) layFields rfl hxj.out ?_))
        refine (HRR.out _).mono ?_
        rintro e w5 ⟨rfl, hb5⟩
        have B5 := below_trans B4 hb5
        go_wp2_with fail
        go_ret
        exact ⟨rfl, HBV.out.trans ((below_trans HBW.out B5).mono HBV.out.size)⟩
      · rw [hN, ← HPC.out] at x18
        clear hN
        go_wp2_with (first | (with_reducible (show wpList _ _ _ ({ dst := _, op := Op.load 26 _, type := _, pos := _, after := _, guard := none } :: _) _ _); refine wpList_load_mid rfl 26 _ rfl w1.heap.size 0 rfl X.toList _ (hra.out _ (hbr)) layFields rfl hxj.out ?_) | (with_reducible (show wpList _ _ _ ({ dst := _, op := Op.load 26 _, type := _, pos := _, after := _, guard := some _ } :: _) _ _); refine wpList_load_mid_g rfl 26 _ rfl w1.heap.size 0 rfl X.toList _ (hra.out _ (hbr)) layFields rfl hxj.out ?_))
        refine (HR0.out _).mono ?_
        rintro e w4 ⟨rfl, hb4⟩
        have B4 := below_trans hbr hb4
        go_wp2_with (first | (with_reducible (show wpList _ _ _ ({ dst := _, op := Op.load 26 _, type := _, pos := _, after := _, guard := none } :: _) _ _); refine wpList_load_mid rfl 26 _ rfl w1.heap.size 0 rfl X.toList _ (hra.out _ (B4)) layFields rfl hxj.out ?_) | (with_reducible (show wpList _ _ _ ({ dst := _, op := Op.load 26 _, type := _, pos := _, after := _, guard := some _ } :: _) _ _); refine wpList_load_mid_g rfl 26 _ rfl w1.heap.size 0 rfl X.toList _ (hra.out _ (B4)) layFields rfl hxj.out ?_))
        refine (HRR.out _).mono ?_
        rintro e w5 ⟨rfl, hb5⟩
        have B5 := below_trans B4 hb5
        go_wp2_with fail
        go_ret
        exact ⟨rfl, HBV.out.trans ((below_trans HBW.out B5).mono HBV.out.size)⟩
end Go.Proofs.Ytbaeckehchpfaaa
