/-
  LAYOUT: the law LayoutApart.
-/
import Derived.Test.YtbaeckehchpfaaaRows
import Derived.ProofKit
import Derived.Deep.Cut
import Derived.Deep.OwnRows
import Derived.Test.YtbaeckehchpfaaaLayS
import Derived.Test.YtbaeckehchpfaaaLayO
import Derived.Test.YtbaeckehchpfaaaLayAs
namespace Go.Proofs.Ytbaeckehchpfaaa
open Go.ChangeShapes Go.WideShapes Go.ChangeAt Go.RowKit

theorem ints_one4 (Y : Array Value) (hY : IntCells Y 25) : Y.size = 25 ∧ Y.all (·.oneCell') = true := by
  refine ⟨hY.1, ?_⟩
  rw [Array.all_eq_true_iff_forall_mem]
  intro v hv
  obtain ⟨j, hj, he⟩ := Array.mem_iff_getElem.1 hv
  obtain ⟨a, ha⟩ := hY.2 j (by rw [← hY.1]; exact hj)
  rw [Array.getElem?_eq_getElem hj] at ha
  injection ha with ha
  rw [← he, ha]; rfl

theorem intRow : (Try.prog.info? 3).map (fun i => (i.zero, i.size, i.bytes)) = some (some (.int .i64 0), 1, 8) := by kernel_rfl

theorem made_at (Z x : Nat) (h : x < Z) : (madeCells #[Value.int .i64 0] Z)[x]? = some (.int .i64 0) := by
  rw [← Array.getElem?_toList, toList_madeCells_one]
  simp [h]

theorem four_at (A0 : Array Value) (Z : Nat) (hZ : 4 < Z) (h0 : A0.size = Z) (h1 : ∀ x, x < Z → A0[x]? = some (.int .i64 0)) (x : Nat) (hx : x < Z) :
    ((((A0.setIfInBounds 0 (.int .i64 1)).setIfInBounds 1 (.int .i64 1)).setIfInBounds 2 (.int .i64 1)).setIfInBounds 3 (.int .i64 1))[x]? = some (.int .i64 (if x < 4 then 1 else 0)) := by
  by_cases e3 : 3 = x
  · subst e3; rw [Array.getElem?_setIfInBounds_self, if_pos (by simp; omega)]; rfl
  rw [Array.getElem?_setIfInBounds_ne e3]
  by_cases e2 : 2 = x
  · subst e2; rw [Array.getElem?_setIfInBounds_self, if_pos (by simp; omega)]; rfl
  rw [Array.getElem?_setIfInBounds_ne e2]
  by_cases e1 : 1 = x
  · subst e1; rw [Array.getElem?_setIfInBounds_self, if_pos (by simp; omega)]; rfl
  rw [Array.getElem?_setIfInBounds_ne e1]
  by_cases e0 : 0 = x
  · subst e0; rw [Array.getElem?_setIfInBounds_self, if_pos (by omega)]; rfl
  rw [Array.getElem?_setIfInBounds_ne e0, h1 x hx, if_neg (by omega)]

set_option maxRecDepth 100000 in
set_option maxHeartbeats 40000000 in
theorem walkLayoutApart (s n bu sl t ce ma st ch : Int) (w : World) (_hs : -9223372036854775808 ≤ s ∧ s ≤ 9223372036854775807) (_hn : -9223372036854775808 ≤ n ∧ n ≤ 9223372036854775807) (_hbu : -9223372036854775808 ≤ bu ∧ bu ≤ 9223372036854775807) (_hsl : -9223372036854775808 ≤ sl ∧ sl ≤ 9223372036854775807) (_ht : -9223372036854775808 ≤ t ∧ t ≤ 9223372036854775807) (_hce : -9223372036854775808 ≤ ce ∧ ce ≤ 9223372036854775807) (_hma : -9223372036854775808 ≤ ma ∧ ma ≤ 9223372036854775807) (_hst : -9223372036854775808 ≤ st ∧ st ≤ 9223372036854775807) (_hch : -9223372036854775808 ≤ ch ∧ ch ≤ 9223372036854775807) :
    Calls Try.prog 5 #[.agg #[.int .i64 s, .int .i64 n, .int .i64 bu, .int .i64 sl, .int .i64 t, .int .i64 ce, .int .i64 ma, .int .i64 st, .int .i64 ch]] w fun e w' => e = .returned (.bool true) ∧ Below w.heap.size w w' := by
  obtain ⟨V, hV⟩ : ∃ V, V = w.alloc (Obj.cells #[.int .i64 s, .int .i64 n, .int .i64 bu, .int .i64 sl, .int .i64 t, .int .i64 ce, .int .i64 ma, .int .i64 st, .int .i64 ch] 23) := ⟨_, rfl⟩
  have hbV : Below w.heap.size w V := by rw [hV]; exact (Below.refl _ w).alloc (Nat.le_refl _) _
  have KC : Blk V w.heap.size 23 #[.int .i64 s, .int .i64 n, .int .i64 bu, .int .i64 sl, .int .i64 t, .int .i64 ce, .int .i64 ma, .int .i64 st, .int .i64 ch] := by rw [hV]; exact Blk.made w _ _
  have HV := Lib.hid hV
  have HBV := Lib.hid hbV
  clear hV hbV
  by_cases hok : ConfOk s n bu sl t ce ma st ch
  case neg =>
    have HO := Lib.hid fun w => rof_no s n bu sl t ce ma st ch hok w
    unfold confC at HO
    obtain ⟨ZZ, hZZ⟩ : ∃ ZZ, ZZ = zeroL := ⟨_, rfl⟩
    rw [← hZZ] at HO
    have hZ25 : Hid (ZZ.size = 25) := Lib.hid (by rw [hZZ]; rfl)
    have hZOn : Hid (ZZ.all (·.oneCell') = true) := Lib.hid (by rw [hZZ]; exact (ints_one4 _ zeroL_cells).2)
    have hZi : Hid ((Try.prog.info? 26).map (·.size) = some ZZ.size) := Lib.hid (by rw [hZZ]; exact lay25)
    clear hZZ hok
    go_enter Try.func5, Try.ntmps5
    go_wp2_with fail
    rw [← HV.out]
    refine (shown_any V).mono ?_
    rintro e w0 ⟨rfl, hb0⟩
    have K0 := KC.later hb0
    have c0 : w0.cell? ⟨w.heap.size, 0, none⟩ = some (.int .i64 s) := K0.cell 0
    have c1 : w0.cell? ⟨w.heap.size, 1, none⟩ = some (.int .i64 n) := K0.cell 1
    have c2 : w0.cell? ⟨w.heap.size, 2, none⟩ = some (.int .i64 bu) := K0.cell 2
    have c3 : w0.cell? ⟨w.heap.size, 3, none⟩ = some (.int .i64 sl) := K0.cell 3
    have c4 : w0.cell? ⟨w.heap.size, 4, none⟩ = some (.int .i64 t) := K0.cell 4
    have c5 : w0.cell? ⟨w.heap.size, 5, none⟩ = some (.int .i64 ce) := K0.cell 5
    have c6 : w0.cell? ⟨w.heap.size, 6, none⟩ = some (.int .i64 ma) := K0.cell 6
    have c7 : w0.cell? ⟨w.heap.size, 7, none⟩ = some (.int .i64 st) := K0.cell 7
    have c8 : w0.cell? ⟨w.heap.size, 8, none⟩ = some (.int .i64 ch) := K0.cell 8
    go_wp2_with fail
    refine (HO.out _).mono ?_
    rintro e w1 ⟨rfl, hb1⟩
    have HN := Blk.made w1 26 #[.int .i64 0, .int .i64 0, .int .i64 0, .int .i64 0, .int .i64 0, .int .i64 0, .int .i64 0, .int .i64 0, .int .i64 0, .int .i64 0, .int .i64 0, .int .i64 0, .int .i64 0, .int .i64 0, .int .i64 0, .int .i64 0, .int .i64 0, .int .i64 0, .int .i64 0, .int .i64 0, .int .i64 0, .int .i64 0, .int .i64 0, .int .i64 0, .int .i64 0]
    have hth1 : Hid ((w1.alloc (Obj.cells #[.int .i64 0, .int .i64 0, .int .i64 0, .int .i64 0, .int .i64 0, .int .i64 0, .int .i64 0, .int .i64 0, .int .i64 0, .int .i64 0, .int .i64 0, .int .i64 0, .int .i64 0, .int .i64 0, .int .i64 0, .int .i64 0, .int .i64 0, .int .i64 0, .int .i64 0, .int .i64 0, .int .i64 0, .int .i64 0, .int .i64 0, .int .i64 0, .int .i64 0] 26)).there w1.heap.size 0 ZZ.size) := Lib.hid fun j hj => by
      rw [Nat.zero_add]
      obtain ⟨u, hu⟩ := HN.has j (by rw [hZ25.out] at hj; exact hj)
      exact ⟨by rw [hu]; rfl, HN.free j⟩
    have hb01 := below_trans hb0 hb1
    have hbW : Below V.heap.size V ((w1.alloc (Obj.cells #[.int .i64 0, .int .i64 0, .int .i64 0, .int .i64 0, .int .i64 0, .int .i64 0, .int .i64 0, .int .i64 0, .int .i64 0, .int .i64 0, .int .i64 0, .int .i64 0, .int .i64 0, .int .i64 0, .int .i64 0, .int .i64 0, .int .i64 0, .int .i64 0, .int .i64 0, .int .i64 0, .int .i64 0, .int .i64 0, .int .i64 0, .int .i64 0, .int .i64 0] 26)).setCells w1.heap.size 0 ZZ.toList) := (hb01.alloc hb01.size _).trans (Lib.below_setCells_w hb01.size _ _ _)
    have HBW := Lib.hid hbW
    clear HN hb0 hb1 hb01 hbW c0 c1 c2 c3 c4 c5 c6 c7 c8 K0
    go_wp2_with ((with_reducible (show wpList _ _ _ ({ dst := none, op := Op.store 26 _ _, type := _, pos := _, after := _, guard := none } :: _) _ _)); refine wpList_store_mid rfl 26 _ _ rfl w1.heap.size 0 ZZ rfl rfl hth1.out hZi.out hZOn.out ?_)
    go_ret
    exact ⟨rfl, HBV.out.trans (HBW.out.mono HBV.out.size)⟩
  have HO := Lib.hid fun w => rof_ok s n bu sl t ce ma st ch hok w
  obtain ⟨q, hq⟩ : ∃ q, q = LP.mk s n bu sl t ce ma st ch := ⟨_, rfl⟩
  have HPV := Lib.hid fun a b w => places_val s n bu sl t ce ma st ch a b hok w
  have HOK := Lib.hid hok
  have htt := hok.may.ht
  have hss := hok.may.hs
  obtain ⟨X, hX⟩ : ∃ X, X = layV s n bu sl t ce ma st ch := ⟨_, rfl⟩
  rw [← hX] at HO HPV
  rw [← hq] at HPV
  have hXc : IntCells X 25 := by rw [hX]; exact layC_cells ..
  have HRS := Lib.hid fun w => rings_lay X t (by rw [hX]; rfl) w
  have hrl := rings_le t
  obtain ⟨R, hR⟩ : ∃ R, ringsP t = R := ⟨_, rfl⟩
  rw [hR] at HRS hrl
  have x9 : X[9]? = some (.int .i64 0) := by rw [hX]; rfl
  have x10 : X[10]? = some (.int .i64 1) := by rw [hX]; rfl
  have x11 : X[11]? = some (.int .i64 2) := by rw [hX]; rfl
  have x12 : X[12]? = some (.int .i64 3) := by rw [hX]; rfl
  have x24 : X[24]? = some (.int .i64 q.f24) := by rw [hX, hq]; rfl
  have hx25 : Hid (X.size = 25) := Lib.hid hXc.1
  have hxOn : Hid (X.all (·.oneCell') = true) := Lib.hid (ints_one4 _ hXc).2
  have hxi : Hid ((Try.prog.info? 26).map (·.size) = some X.size) := Lib.hid (by rw [hXc.1]; exact lay25)
  have hxj : Hid ((Try.prog.info? 26).map (·.size) = some X.toList.length) := Lib.hid (by rw [Array.length_toList, hXc.1]; exact lay25)
  have HX9 := Lib.hid x9
  have HX10 := Lib.hid x10
  have HX11 := Lib.hid x11
  have HX12 := Lib.hid x12
  have HX24 := Lib.hid x24
  have HQ := Lib.hid hq
  have HR := Lib.hid hR
  clear hX hok hXc hR x9 x10 x11 x12 x24 hq
  obtain ⟨F, hF⟩ : ∃ F : Nat, F = 5 := ⟨_, rfl⟩
  clear hF F
  by_cases q1 : s ≤ 2
  case neg =>
    have d1 : decide (2 < s) = true := by simp; omega
    go_enter Try.func5, Try.ntmps5
    go_wp2_with fail
    rw [← HV.out]
    refine (shown_any V).mono ?_
    rintro e w0 ⟨rfl, hb0⟩
    have K0 := KC.later hb0
    have c0 : w0.cell? ⟨w.heap.size, 0, none⟩ = some (.int .i64 s) := K0.cell 0
    have c1 : w0.cell? ⟨w.heap.size, 1, none⟩ = some (.int .i64 n) := K0.cell 1
    have c2 : w0.cell? ⟨w.heap.size, 2, none⟩ = some (.int .i64 bu) := K0.cell 2
    have c3 : w0.cell? ⟨w.heap.size, 3, none⟩ = some (.int .i64 sl) := K0.cell 3
    have c4 : w0.cell? ⟨w.heap.size, 4, none⟩ = some (.int .i64 t) := K0.cell 4
    have c5 : w0.cell? ⟨w.heap.size, 5, none⟩ = some (.int .i64 ce) := K0.cell 5
    have c6 : w0.cell? ⟨w.heap.size, 6, none⟩ = some (.int .i64 ma) := K0.cell 6
    have c7 : w0.cell? ⟨w.heap.size, 7, none⟩ = some (.int .i64 st) := K0.cell 7
    have c8 : w0.cell? ⟨w.heap.size, 8, none⟩ = some (.int .i64 ch) := K0.cell 8
    go_wp2_with fail
    refine (HO.out _).mono ?_
    rintro e w1 ⟨rfl, hb1⟩
    clear c0 c1 c2 c3 c4 c5 c6 c7 c8
    have K1 := K0.later hb1
    have HN := Blk.made w1 26 #[.int .i64 0, .int .i64 0, .int .i64 0, .int .i64 0, .int .i64 0, .int .i64 0, .int .i64 0, .int .i64 0, .int .i64 0, .int .i64 0, .int .i64 0, .int .i64 0, .int .i64 0, .int .i64 0, .int .i64 0, .int .i64 0, .int .i64 0, .int .i64 0, .int .i64 0, .int .i64 0, .int .i64 0, .int .i64 0, .int .i64 0, .int .i64 0, .int .i64 0]
    have hth1 : Hid ((w1.alloc (Obj.cells #[.int .i64 0, .int .i64 0, .int .i64 0, .int .i64 0, .int .i64 0, .int .i64 0, .int .i64 0, .int .i64 0, .int .i64 0, .int .i64 0, .int .i64 0, .int .i64 0, .int .i64 0, .int .i64 0, .int .i64 0, .int .i64 0, .int .i64 0, .int .i64 0, .int .i64 0, .int .i64 0, .int .i64 0, .int .i64 0, .int .i64 0, .int .i64 0, .int .i64 0] 26)).there w1.heap.size 0 X.size) := Lib.hid fun j hj => by
      rw [Nat.zero_add]
      obtain ⟨u, hu⟩ := HN.has j (by rw [hx25.out] at hj; exact hj)
      exact ⟨by rw [hu]; rfl, HN.free j⟩
    have hb01 := below_trans hb0 hb1
    obtain ⟨W1, hW1⟩ : ∃ W, W = (w1.alloc (Obj.cells #[.int .i64 0, .int .i64 0, .int .i64 0, .int .i64 0, .int .i64 0, .int .i64 0, .int .i64 0, .int .i64 0, .int .i64 0, .int .i64 0, .int .i64 0, .int .i64 0, .int .i64 0, .int .i64 0, .int .i64 0, .int .i64 0, .int .i64 0, .int .i64 0, .int .i64 0, .int .i64 0, .int .i64 0, .int .i64 0, .int .i64 0, .int .i64 0, .int .i64 0] 26)).setCells w1.heap.size 0 X.toList := ⟨_, rfl⟩
    have KX : Blk W1 w1.heap.size 26 X := by rw [hW1]; exact HN.put_whole X.toList (by rw [Array.length_toList, hx25.out]; rfl)
    have lK := K1.lt
    have n1 : w.heap.size ≠ w1.heap.size := by omega
    have KW : Blk W1 w.heap.size 23 #[.int .i64 s, .int .i64 n, .int .i64 bu, .int .i64 sl, .int .i64 t, .int .i64 ce, .int .i64 ma, .int .i64 st, .int .i64 ch] := by rw [hW1]; exact Blk.farAll (w := w) n1 _ _ (K1.alloc _)
    have hbW : Below V.heap.size V W1 := by rw [hW1]; exact (hb01.alloc hb01.size _).trans (Lib.below_setCells_w hb01.size _ _ _)
    have hbw : Below w.heap.size w W1 := HBV.out.trans (hbW.mono HBV.out.size)
    have hra : Hid (∀ wx, Blk wx w1.heap.size 26 X → World.rangeAt wx w1.heap.size 0 X.toList) := Lib.hid fun wx hx j v hv => by
      rw [Nat.zero_add, hx.cell]; simpa using hv
    have HW1 := Lib.hid hW1
    have HBW := Lib.hid hbw
    have hcx : W1.cell? ⟨w.heap.size, 0, none⟩ = some (.int .i64 s) ∧ W1.cell? ⟨w.heap.size, 1, none⟩ = some (.int .i64 n) ∧ W1.cell? ⟨w.heap.size, 2, none⟩ = some (.int .i64 bu) ∧ W1.cell? ⟨w.heap.size, 4, none⟩ = some (.int .i64 t) := ⟨KW.cell 0, KW.cell 1, KW.cell 2, KW.cell 4⟩
    obtain ⟨c0, c1, c2, c4⟩ := hcx
    have HKX := Lib.hid KX
    clear hW1 HN hb0 hb1 hb01 K0 K1 KW hbW n1 hbw
    clear KX
    go_wp2_with ((with_reducible (show wpList _ _ _ ({ dst := none, op := Op.store 26 _ _, type := _, pos := _, after := _, guard := none } :: _) _ _)); refine wpList_store_mid rfl 26 _ _ rfl w1.heap.size 0 X rfl rfl hth1.out hxi.out hxOn.out ?_; rw [← HW1.out])
    go_ret
    exact ⟨rfl, HBW.out⟩
  by_cases q2 : t ≤ 9
  case neg =>
    have d1 : decide (9 < t) = true := by simp; omega
    go_enter Try.func5, Try.ntmps5
    go_wp2_with fail
    rw [← HV.out]
    refine (shown_any V).mono ?_
    rintro e w0 ⟨rfl, hb0⟩
    have K0 := KC.later hb0
    have c0 : w0.cell? ⟨w.heap.size, 0, none⟩ = some (.int .i64 s) := K0.cell 0
    have c1 : w0.cell? ⟨w.heap.size, 1, none⟩ = some (.int .i64 n) := K0.cell 1
    have c2 : w0.cell? ⟨w.heap.size, 2, none⟩ = some (.int .i64 bu) := K0.cell 2
    have c3 : w0.cell? ⟨w.heap.size, 3, none⟩ = some (.int .i64 sl) := K0.cell 3
    have c4 : w0.cell? ⟨w.heap.size, 4, none⟩ = some (.int .i64 t) := K0.cell 4
    have c5 : w0.cell? ⟨w.heap.size, 5, none⟩ = some (.int .i64 ce) := K0.cell 5
    have c6 : w0.cell? ⟨w.heap.size, 6, none⟩ = some (.int .i64 ma) := K0.cell 6
    have c7 : w0.cell? ⟨w.heap.size, 7, none⟩ = some (.int .i64 st) := K0.cell 7
    have c8 : w0.cell? ⟨w.heap.size, 8, none⟩ = some (.int .i64 ch) := K0.cell 8
    go_wp2_with fail
    refine (HO.out _).mono ?_
    rintro e w1 ⟨rfl, hb1⟩
    clear c0 c1 c2 c3 c4 c5 c6 c7 c8
    have K1 := K0.later hb1
    have HN := Blk.made w1 26 #[.int .i64 0, .int .i64 0, .int .i64 0, .int .i64 0, .int .i64 0, .int .i64 0, .int .i64 0, .int .i64 0, .int .i64 0, .int .i64 0, .int .i64 0, .int .i64 0, .int .i64 0, .int .i64 0, .int .i64 0, .int .i64 0, .int .i64 0, .int .i64 0, .int .i64 0, .int .i64 0, .int .i64 0, .int .i64 0, .int .i64 0, .int .i64 0, .int .i64 0]
    have hth1 : Hid ((w1.alloc (Obj.cells #[.int .i64 0, .int .i64 0, .int .i64 0, .int .i64 0, .int .i64 0, .int .i64 0, .int .i64 0, .int .i64 0, .int .i64 0, .int .i64 0, .int .i64 0, .int .i64 0, .int .i64 0, .int .i64 0, .int .i64 0, .int .i64 0, .int .i64 0, .int .i64 0, .int .i64 0, .int .i64 0, .int .i64 0, .int .i64 0, .int .i64 0, .int .i64 0, .int .i64 0] 26)).there w1.heap.size 0 X.size) := Lib.hid fun j hj => by
      rw [Nat.zero_add]
      obtain ⟨u, hu⟩ := HN.has j (by rw [hx25.out] at hj; exact hj)
      exact ⟨by rw [hu]; rfl, HN.free j⟩
    have hb01 := below_trans hb0 hb1
    obtain ⟨W1, hW1⟩ : ∃ W, W = (w1.alloc (Obj.cells #[.int .i64 0, .int .i64 0, .int .i64 0, .int .i64 0, .int .i64 0, .int .i64 0, .int .i64 0, .int .i64 0, .int .i64 0, .int .i64 0, .int .i64 0, .int .i64 0, .int .i64 0, .int .i64 0, .int .i64 0, .int .i64 0, .int .i64 0, .int .i64 0, .int .i64 0, .int .i64 0, .int .i64 0, .int .i64 0, .int .i64 0, .int .i64 0, .int .i64 0] 26)).setCells w1.heap.size 0 X.toList := ⟨_, rfl⟩
    have KX : Blk W1 w1.heap.size 26 X := by rw [hW1]; exact HN.put_whole X.toList (by rw [Array.length_toList, hx25.out]; rfl)
    have lK := K1.lt
    have n1 : w.heap.size ≠ w1.heap.size := by omega
    have KW : Blk W1 w.heap.size 23 #[.int .i64 s, .int .i64 n, .int .i64 bu, .int .i64 sl, .int .i64 t, .int .i64 ce, .int .i64 ma, .int .i64 st, .int .i64 ch] := by rw [hW1]; exact Blk.farAll (w := w) n1 _ _ (K1.alloc _)
    have hbW : Below V.heap.size V W1 := by rw [hW1]; exact (hb01.alloc hb01.size _).trans (Lib.below_setCells_w hb01.size _ _ _)
    have hbw : Below w.heap.size w W1 := HBV.out.trans (hbW.mono HBV.out.size)
    have hra : Hid (∀ wx, Blk wx w1.heap.size 26 X → World.rangeAt wx w1.heap.size 0 X.toList) := Lib.hid fun wx hx j v hv => by
      rw [Nat.zero_add, hx.cell]; simpa using hv
    have HW1 := Lib.hid hW1
    have HBW := Lib.hid hbw
    have hcx : W1.cell? ⟨w.heap.size, 0, none⟩ = some (.int .i64 s) ∧ W1.cell? ⟨w.heap.size, 1, none⟩ = some (.int .i64 n) ∧ W1.cell? ⟨w.heap.size, 2, none⟩ = some (.int .i64 bu) ∧ W1.cell? ⟨w.heap.size, 4, none⟩ = some (.int .i64 t) := ⟨KW.cell 0, KW.cell 1, KW.cell 2, KW.cell 4⟩
    obtain ⟨c0, c1, c2, c4⟩ := hcx
    have HKX := Lib.hid KX
    clear hW1 HN hb0 hb1 hb01 K0 K1 KW hbW n1 hbw
    clear KX
    go_wp2_with ((with_reducible (show wpList _ _ _ ({ dst := none, op := Op.store 26 _ _, type := _, pos := _, after := _, guard := none } :: _) _ _)); refine wpList_store_mid rfl 26 _ _ rfl w1.heap.size 0 X rfl rfl hth1.out hxi.out hxOn.out ?_; rw [← HW1.out])
    go_ret
    exact ⟨rfl, HBW.out⟩
  by_cases q3 : bu ≤ 8
  case neg =>
    have d1 : decide (8 < bu) = true := by simp; omega
    go_enter Try.func5, Try.ntmps5
    go_wp2_with fail
    rw [← HV.out]
    refine (shown_any V).mono ?_
    rintro e w0 ⟨rfl, hb0⟩
    have K0 := KC.later hb0
    have c0 : w0.cell? ⟨w.heap.size, 0, none⟩ = some (.int .i64 s) := K0.cell 0
    have c1 : w0.cell? ⟨w.heap.size, 1, none⟩ = some (.int .i64 n) := K0.cell 1
    have c2 : w0.cell? ⟨w.heap.size, 2, none⟩ = some (.int .i64 bu) := K0.cell 2
    have c3 : w0.cell? ⟨w.heap.size, 3, none⟩ = some (.int .i64 sl) := K0.cell 3
    have c4 : w0.cell? ⟨w.heap.size, 4, none⟩ = some (.int .i64 t) := K0.cell 4
    have c5 : w0.cell? ⟨w.heap.size, 5, none⟩ = some (.int .i64 ce) := K0.cell 5
    have c6 : w0.cell? ⟨w.heap.size, 6, none⟩ = some (.int .i64 ma) := K0.cell 6
    have c7 : w0.cell? ⟨w.heap.size, 7, none⟩ = some (.int .i64 st) := K0.cell 7
    have c8 : w0.cell? ⟨w.heap.size, 8, none⟩ = some (.int .i64 ch) := K0.cell 8
    go_wp2_with fail
    refine (HO.out _).mono ?_
    rintro e w1 ⟨rfl, hb1⟩
    clear c0 c1 c2 c3 c4 c5 c6 c7 c8
    have K1 := K0.later hb1
    have HN := Blk.made w1 26 #[.int .i64 0, .int .i64 0, .int .i64 0, .int .i64 0, .int .i64 0, .int .i64 0, .int .i64 0, .int .i64 0, .int .i64 0, .int .i64 0, .int .i64 0, .int .i64 0, .int .i64 0, .int .i64 0, .int .i64 0, .int .i64 0, .int .i64 0, .int .i64 0, .int .i64 0, .int .i64 0, .int .i64 0, .int .i64 0, .int .i64 0, .int .i64 0, .int .i64 0]
    have hth1 : Hid ((w1.alloc (Obj.cells #[.int .i64 0, .int .i64 0, .int .i64 0, .int .i64 0, .int .i64 0, .int .i64 0, .int .i64 0, .int .i64 0, .int .i64 0, .int .i64 0, .int .i64 0, .int .i64 0, .int .i64 0, .int .i64 0, .int .i64 0, .int .i64 0, .int .i64 0, .int .i64 0, .int .i64 0, .int .i64 0, .int .i64 0, .int .i64 0, .int .i64 0, .int .i64 0, .int .i64 0] 26)).there w1.heap.size 0 X.size) := Lib.hid fun j hj => by
      rw [Nat.zero_add]
      obtain ⟨u, hu⟩ := HN.has j (by rw [hx25.out] at hj; exact hj)
      exact ⟨by rw [hu]; rfl, HN.free j⟩
    have hb01 := below_trans hb0 hb1
    obtain ⟨W1, hW1⟩ : ∃ W, W = (w1.alloc (Obj.cells #[.int .i64 0, .int .i64 0, .int .i64 0, .int .i64 0, .int .i64 0, .int .i64 0, .int .i64 0, .int .i64 0, .int .i64 0, .int .i64 0, .int .i64 0, .int .i64 0, .int .i64 0, .int .i64 0, .int .i64 0, .int .i64 0, .int .i64 0, .int .i64 0, .int .i64 0, .int .i64 0, .int .i64 0, .int .i64 0, .int .i64 0, .int .i64 0, .int .i64 0] 26)).setCells w1.heap.size 0 X.toList := ⟨_, rfl⟩
    have KX : Blk W1 w1.heap.size 26 X := by rw [hW1]; exact HN.put_whole X.toList (by rw [Array.length_toList, hx25.out]; rfl)
    have lK := K1.lt
    have n1 : w.heap.size ≠ w1.heap.size := by omega
    have KW : Blk W1 w.heap.size 23 #[.int .i64 s, .int .i64 n, .int .i64 bu, .int .i64 sl, .int .i64 t, .int .i64 ce, .int .i64 ma, .int .i64 st, .int .i64 ch] := by rw [hW1]; exact Blk.farAll (w := w) n1 _ _ (K1.alloc _)
    have hbW : Below V.heap.size V W1 := by rw [hW1]; exact (hb01.alloc hb01.size _).trans (Lib.below_setCells_w hb01.size _ _ _)
    have hbw : Below w.heap.size w W1 := HBV.out.trans (hbW.mono HBV.out.size)
    have hra : Hid (∀ wx, Blk wx w1.heap.size 26 X → World.rangeAt wx w1.heap.size 0 X.toList) := Lib.hid fun wx hx j v hv => by
      rw [Nat.zero_add, hx.cell]; simpa using hv
    have HW1 := Lib.hid hW1
    have HBW := Lib.hid hbw
    have hcx : W1.cell? ⟨w.heap.size, 0, none⟩ = some (.int .i64 s) ∧ W1.cell? ⟨w.heap.size, 1, none⟩ = some (.int .i64 n) ∧ W1.cell? ⟨w.heap.size, 2, none⟩ = some (.int .i64 bu) ∧ W1.cell? ⟨w.heap.size, 4, none⟩ = some (.int .i64 t) := ⟨KW.cell 0, KW.cell 1, KW.cell 2, KW.cell 4⟩
    obtain ⟨c0, c1, c2, c4⟩ := hcx
    have HKX := Lib.hid KX
    clear hW1 HN hb0 hb1 hb01 K0 K1 KW hbW n1 hbw
    clear KX
    go_wp2_with ((with_reducible (show wpList _ _ _ ({ dst := none, op := Op.store 26 _ _, type := _, pos := _, after := _, guard := none } :: _) _ _)); refine wpList_store_mid rfl 26 _ _ rfl w1.heap.size 0 X rfl rfl hth1.out hxi.out hxOn.out ?_; rw [← HW1.out])
    go_ret
    exact ⟨rfl, HBW.out⟩
  by_cases q4 : n ≤ 20
  case neg =>
    have d1 : decide (20 < n) = true := by simp; omega
    go_enter Try.func5, Try.ntmps5
    go_wp2_with fail
    rw [← HV.out]
    refine (shown_any V).mono ?_
    rintro e w0 ⟨rfl, hb0⟩
    have K0 := KC.later hb0
    have c0 : w0.cell? ⟨w.heap.size, 0, none⟩ = some (.int .i64 s) := K0.cell 0
    have c1 : w0.cell? ⟨w.heap.size, 1, none⟩ = some (.int .i64 n) := K0.cell 1
    have c2 : w0.cell? ⟨w.heap.size, 2, none⟩ = some (.int .i64 bu) := K0.cell 2
    have c3 : w0.cell? ⟨w.heap.size, 3, none⟩ = some (.int .i64 sl) := K0.cell 3
    have c4 : w0.cell? ⟨w.heap.size, 4, none⟩ = some (.int .i64 t) := K0.cell 4
    have c5 : w0.cell? ⟨w.heap.size, 5, none⟩ = some (.int .i64 ce) := K0.cell 5
    have c6 : w0.cell? ⟨w.heap.size, 6, none⟩ = some (.int .i64 ma) := K0.cell 6
    have c7 : w0.cell? ⟨w.heap.size, 7, none⟩ = some (.int .i64 st) := K0.cell 7
    have c8 : w0.cell? ⟨w.heap.size, 8, none⟩ = some (.int .i64 ch) := K0.cell 8
    go_wp2_with fail
    refine (HO.out _).mono ?_
    rintro e w1 ⟨rfl, hb1⟩
    clear c0 c1 c2 c3 c4 c5 c6 c7 c8
    have K1 := K0.later hb1
    have HN := Blk.made w1 26 #[.int .i64 0, .int .i64 0, .int .i64 0, .int .i64 0, .int .i64 0, .int .i64 0, .int .i64 0, .int .i64 0, .int .i64 0, .int .i64 0, .int .i64 0, .int .i64 0, .int .i64 0, .int .i64 0, .int .i64 0, .int .i64 0, .int .i64 0, .int .i64 0, .int .i64 0, .int .i64 0, .int .i64 0, .int .i64 0, .int .i64 0, .int .i64 0, .int .i64 0]
    have hth1 : Hid ((w1.alloc (Obj.cells #[.int .i64 0, .int .i64 0, .int .i64 0, .int .i64 0, .int .i64 0, .int .i64 0, .int .i64 0, .int .i64 0, .int .i64 0, .int .i64 0, .int .i64 0, .int .i64 0, .int .i64 0, .int .i64 0, .int .i64 0, .int .i64 0, .int .i64 0, .int .i64 0, .int .i64 0, .int .i64 0, .int .i64 0, .int .i64 0, .int .i64 0, .int .i64 0, .int .i64 0] 26)).there w1.heap.size 0 X.size) := Lib.hid fun j hj => by
      rw [Nat.zero_add]
      obtain ⟨u, hu⟩ := HN.has j (by rw [hx25.out] at hj; exact hj)
      exact ⟨by rw [hu]; rfl, HN.free j⟩
    have hb01 := below_trans hb0 hb1
    obtain ⟨W1, hW1⟩ : ∃ W, W = (w1.alloc (Obj.cells #[.int .i64 0, .int .i64 0, .int .i64 0, .int .i64 0, .int .i64 0, .int .i64 0, .int .i64 0, .int .i64 0, .int .i64 0, .int .i64 0, .int .i64 0, .int .i64 0, .int .i64 0, .int .i64 0, .int .i64 0, .int .i64 0, .int .i64 0, .int .i64 0, .int .i64 0, .int .i64 0, .int .i64 0, .int .i64 0, .int .i64 0, .int .i64 0, .int .i64 0] 26)).setCells w1.heap.size 0 X.toList := ⟨_, rfl⟩
    have KX : Blk W1 w1.heap.size 26 X := by rw [hW1]; exact HN.put_whole X.toList (by rw [Array.length_toList, hx25.out]; rfl)
    have lK := K1.lt
    have n1 : w.heap.size ≠ w1.heap.size := by omega
    have KW : Blk W1 w.heap.size 23 #[.int .i64 s, .int .i64 n, .int .i64 bu, .int .i64 sl, .int .i64 t, .int .i64 ce, .int .i64 ma, .int .i64 st, .int .i64 ch] := by rw [hW1]; exact Blk.farAll (w := w) n1 _ _ (K1.alloc _)
    have hbW : Below V.heap.size V W1 := by rw [hW1]; exact (hb01.alloc hb01.size _).trans (Lib.below_setCells_w hb01.size _ _ _)
    have hbw : Below w.heap.size w W1 := HBV.out.trans (hbW.mono HBV.out.size)
    have hra : Hid (∀ wx, Blk wx w1.heap.size 26 X → World.rangeAt wx w1.heap.size 0 X.toList) := Lib.hid fun wx hx j v hv => by
      rw [Nat.zero_add, hx.cell]; simpa using hv
    have HW1 := Lib.hid hW1
    have HBW := Lib.hid hbw
    have hcx : W1.cell? ⟨w.heap.size, 0, none⟩ = some (.int .i64 s) ∧ W1.cell? ⟨w.heap.size, 1, none⟩ = some (.int .i64 n) ∧ W1.cell? ⟨w.heap.size, 2, none⟩ = some (.int .i64 bu) ∧ W1.cell? ⟨w.heap.size, 4, none⟩ = some (.int .i64 t) := ⟨KW.cell 0, KW.cell 1, KW.cell 2, KW.cell 4⟩
    obtain ⟨c0, c1, c2, c4⟩ := hcx
    have HKX := Lib.hid KX
    clear hW1 HN hb0 hb1 hb01 K0 K1 KW hbW n1 hbw
    clear KX
    go_wp2_with ((with_reducible (show wpList _ _ _ ({ dst := none, op := Op.store 26 _ _, type := _, pos := _, after := _, guard := none } :: _) _ _)); refine wpList_store_mid rfl 26 _ _ rfl w1.heap.size 0 X rfl rfl hth1.out hxi.out hxOn.out ?_; rw [← HW1.out])
    go_ret
    exact ⟨rfl, HBW.out⟩
  have hqok : q.Ok := by
    have h := HOK.out.may
    have h2 := HOK.out.nodes
    rw [HQ.out]
    exact ⟨⟨h.hs.1, q1⟩, ⟨by have := h.hma; have := h.hch; show 0 ≤ n; omega, q4⟩, ⟨h.hb.1, q3⟩, h.hsl, ⟨h.ht.1, q2⟩, h.hce, h.hma, h.hst, h.hch⟩
  have hfb : 20 ≤ q.f24 ∧ q.f24 ≤ 2000 := by
    rw [HQ.out]
    have h := HOK.out.may
    have h2 := HOK.out.nodes
    obtain ⟨hs, hb, hsl, ht, hce, hma, hst, hch, -⟩ := h
    have hc : 4 ≤ cellsP (ringsP t) ∧ cellsP (ringsP t) ≤ 124 := by
      rw [HR.out]
      rcases (show R = 1 ∨ R = 2 ∨ R = 3 ∨ R = 4 ∨ R = 5 by omega) with h | h | h | h | h <;> rw [h] <;> decide
    have p1 : 0 ≤ ma * (2 + bu) ∧ ma * (2 + bu) ≤ 528 := ⟨Int.mul_nonneg (by omega) (by omega), by have := Int.mul_le_mul (show ma ≤ 8 by omega) (show 2 + bu ≤ 66 by omega) (by omega) (by omega); omega⟩
    have p2 : 0 ≤ st * (1 + sl) ∧ st * (1 + sl) ≤ 72 := ⟨Int.mul_nonneg (by omega) (by omega), by have := Int.mul_le_mul (show st ≤ 8 by omega) (show 1 + sl ≤ 9 by omega) (by omega) (by omega); omega⟩
    have p3 : 4 ≤ s * cellsP (ringsP t) ∧ s * cellsP (ringsP t) ≤ 992 := ⟨by have := Int.mul_le_mul (show 1 ≤ s by omega) hc.1 (by omega) (by omega); omega, by have := Int.mul_le_mul (show s ≤ 8 by omega) hc.2 (by omega) (by omega); omega⟩
    show 20 ≤ 4 + 8 * s + s * cellsP (ringsP t) + 4 * t + ce + ma * (2 + bu) + st * (1 + sl) + 2 * ch + 8 * n ∧ 4 + 8 * s + s * cellsP (ringsP t) + 4 * t + ce + ma * (2 + bu) + st * (1 + sl) + 2 * ch + 8 * n ≤ 2000
    omega
  obtain ⟨Z, hZ⟩ : ∃ Z : Nat, (Z : Int) = q.f24 := ⟨q.f24.toNat, by omega⟩
  have hZb : 20 ≤ Z ∧ Z ≤ 2000 := by omega
  have hZi : 20 ≤ (Z : Int) ∧ (Z : Int) ≤ 2000 := by omega
  rw [← hZ] at HX24
  have HZ := Lib.hid hZ
  have HQOK := Lib.hid hqok
  clear hfb hZ hqok
  go_enter Try.func5, Try.ntmps5
  go_wp2_with fail
  rw [← HV.out]
  refine (shown_any V).mono ?_
  rintro e w0 ⟨rfl, hb0⟩
  have K0 := KC.later hb0
  have c0 : w0.cell? ⟨w.heap.size, 0, none⟩ = some (.int .i64 s) := K0.cell 0
  have c1 : w0.cell? ⟨w.heap.size, 1, none⟩ = some (.int .i64 n) := K0.cell 1
  have c2 : w0.cell? ⟨w.heap.size, 2, none⟩ = some (.int .i64 bu) := K0.cell 2
  have c3 : w0.cell? ⟨w.heap.size, 3, none⟩ = some (.int .i64 sl) := K0.cell 3
  have c4 : w0.cell? ⟨w.heap.size, 4, none⟩ = some (.int .i64 t) := K0.cell 4
  have c5 : w0.cell? ⟨w.heap.size, 5, none⟩ = some (.int .i64 ce) := K0.cell 5
  have c6 : w0.cell? ⟨w.heap.size, 6, none⟩ = some (.int .i64 ma) := K0.cell 6
  have c7 : w0.cell? ⟨w.heap.size, 7, none⟩ = some (.int .i64 st) := K0.cell 7
  have c8 : w0.cell? ⟨w.heap.size, 8, none⟩ = some (.int .i64 ch) := K0.cell 8
  go_wp2_with fail
  refine (HO.out _).mono ?_
  rintro e w1 ⟨rfl, hb1⟩
  clear c0 c1 c2 c3 c4 c5 c6 c7 c8
  have K1 := K0.later hb1
  have HN := Blk.made w1 26 #[.int .i64 0, .int .i64 0, .int .i64 0, .int .i64 0, .int .i64 0, .int .i64 0, .int .i64 0, .int .i64 0, .int .i64 0, .int .i64 0, .int .i64 0, .int .i64 0, .int .i64 0, .int .i64 0, .int .i64 0, .int .i64 0, .int .i64 0, .int .i64 0, .int .i64 0, .int .i64 0, .int .i64 0, .int .i64 0, .int .i64 0, .int .i64 0, .int .i64 0]
  have hth1 : Hid ((w1.alloc (Obj.cells #[.int .i64 0, .int .i64 0, .int .i64 0, .int .i64 0, .int .i64 0, .int .i64 0, .int .i64 0, .int .i64 0, .int .i64 0, .int .i64 0, .int .i64 0, .int .i64 0, .int .i64 0, .int .i64 0, .int .i64 0, .int .i64 0, .int .i64 0, .int .i64 0, .int .i64 0, .int .i64 0, .int .i64 0, .int .i64 0, .int .i64 0, .int .i64 0, .int .i64 0] 26)).there w1.heap.size 0 X.size) := Lib.hid fun j hj => by
    rw [Nat.zero_add]
    obtain ⟨u, hu⟩ := HN.has j (by rw [hx25.out] at hj; exact hj)
    exact ⟨by rw [hu]; rfl, HN.free j⟩
  have hb01 := below_trans hb0 hb1
  obtain ⟨W1, hW1⟩ : ∃ W, W = (w1.alloc (Obj.cells #[.int .i64 0, .int .i64 0, .int .i64 0, .int .i64 0, .int .i64 0, .int .i64 0, .int .i64 0, .int .i64 0, .int .i64 0, .int .i64 0, .int .i64 0, .int .i64 0, .int .i64 0, .int .i64 0, .int .i64 0, .int .i64 0, .int .i64 0, .int .i64 0, .int .i64 0, .int .i64 0, .int .i64 0, .int .i64 0, .int .i64 0, .int .i64 0, .int .i64 0] 26)).setCells w1.heap.size 0 X.toList := ⟨_, rfl⟩
  have KX : Blk W1 w1.heap.size 26 X := by rw [hW1]; exact HN.put_whole X.toList (by rw [Array.length_toList, hx25.out]; rfl)
  have lK := K1.lt
  have n1 : w.heap.size ≠ w1.heap.size := by omega
  have KW : Blk W1 w.heap.size 23 #[.int .i64 s, .int .i64 n, .int .i64 bu, .int .i64 sl, .int .i64 t, .int .i64 ce, .int .i64 ma, .int .i64 st, .int .i64 ch] := by rw [hW1]; exact Blk.farAll (w := w) n1 _ _ (K1.alloc _)
  have hbW : Below V.heap.size V W1 := by rw [hW1]; exact (hb01.alloc hb01.size _).trans (Lib.below_setCells_w hb01.size _ _ _)
  have hbw : Below w.heap.size w W1 := HBV.out.trans (hbW.mono HBV.out.size)
  have hra : Hid (∀ wx, Blk wx w1.heap.size 26 X → World.rangeAt wx w1.heap.size 0 X.toList) := Lib.hid fun wx hx j v hv => by
    rw [Nat.zero_add, hx.cell]; simpa using hv
  have HW1 := Lib.hid hW1
  have HBW := Lib.hid hbw
  have hcx : W1.cell? ⟨w.heap.size, 0, none⟩ = some (.int .i64 s) ∧ W1.cell? ⟨w.heap.size, 1, none⟩ = some (.int .i64 n) ∧ W1.cell? ⟨w.heap.size, 2, none⟩ = some (.int .i64 bu) ∧ W1.cell? ⟨w.heap.size, 4, none⟩ = some (.int .i64 t) := ⟨KW.cell 0, KW.cell 1, KW.cell 2, KW.cell 4⟩
  obtain ⟨c0, c1, c2, c4⟩ := hcx
  have HKX := Lib.hid KX
  clear hW1 HN hb0 hb1 hb01 K0 K1 KW hbW n1 hbw
  have z1 : decide (2 < s) = false := by simp; omega
  have z2 : decide (9 < t) = false := by simp; omega
  have z3 : decide (8 < bu) = false := by simp; omega
  have z4 : decide (20 < n) = false := by simp; omega
  have x24 : W1.cell? ⟨w1.heap.size, 24, none⟩ = some (.int .i64 Z) := (KX.cell 24).trans HX24.out
  obtain ⟨i0, hi0, hiz0, hiz1, hiz2⟩ := info_parts intRow
  have hmk := fun wx => run_make_row (P := Try.prog) 33 3 i0 (.int .i64 0) Try.underlying33 hi0 hiz0 hiz1 rfl .i64 .i64 Z (by rw [hiz2]; omega) (by omega) wx
  go_upto_region 6 with ((with_reducible (show wpList _ _ _ ({ dst := none, op := Op.store 26 _ _, type := _, pos := _, after := _, guard := none } :: _) _ _)); refine wpList_store_mid rfl 26 _ _ rfl w1.heap.size 0 X rfl rfl hth1.out hxi.out hxOn.out ?_; rw [← HW1.out])
  obtain ⟨W3, hW3⟩ : ∃ W, W = W1.alloc (Obj.cells (madeCells #[Value.int .i64 0] Z) 3) := ⟨_, rfl⟩
  rw [← hW3]
  obtain ⟨gm, hgm⟩ : ∃ g, W1.heap.size = g := ⟨_, rfl⟩
  obtain ⟨A0, hA0⟩ : ∃ A : Array Value, A = madeCells #[Value.int .i64 0] Z := ⟨_, rfl⟩
  have KA3 : Blk W3 gm 3 A0 := by rw [hW3, hA0, ← hgm]; exact Blk.made _ _ _
  have KX3 : Blk W3 w1.heap.size 26 X := by rw [hW3]; exact KX.alloc _
  have hbW3 : Below w.heap.size w W3 := by rw [hW3]; exact HBW.out.alloc HBW.out.size _
  have hlg : w1.heap.size < gm := by rw [← hgm]; exact KX.lt
  have hgw : w.heap.size ≤ gm := by rw [← hgm]; exact HBW.out.size
  rw [hgm]
  have hAs : A0.size = Z := by rw [hA0]; exact size_madeCells _ _
  have hAt : ∀ x, x < Z → A0[x]? = some (.int .i64 0) := by rw [hA0]; exact made_at Z
  have k0 : W3.cell? ⟨gm, 0, none⟩ = some (.int .i64 0) := (KA3.cell 0).trans (hAt 0 (by omega))
  have k1 : W3.cell? ⟨gm, 1, none⟩ = some (.int .i64 0) := (KA3.cell 1).trans (hAt 1 (by omega))
  have k2 : W3.cell? ⟨gm, 2, none⟩ = some (.int .i64 0) := (KA3.cell 2).trans (hAt 2 (by omega))
  have k3 : W3.cell? ⟨gm, 3, none⟩ = some (.int .i64 0) := (KA3.cell 3).trans (hAt 3 (by omega))
  have f0 := KA3.free 0
  have f1 := KA3.free 1
  have f2 := KA3.free 2
  have f3 := KA3.free 3
  have y9 : W3.cell? ⟨w1.heap.size, 9, none⟩ = some (.int .i64 0) := (KX3.cell 9).trans HX9.out
  have y10 : W3.cell? ⟨w1.heap.size, 10, none⟩ = some (.int .i64 1) := (KX3.cell 10).trans HX10.out
  have y11 : W3.cell? ⟨w1.heap.size, 11, none⟩ = some (.int .i64 2) := (KX3.cell 11).trans HX11.out
  have y12 : W3.cell? ⟨w1.heap.size, 12, none⟩ = some (.int .i64 3) := (KX3.cell 12).trans HX12.out
  have nlg : w1.heap.size ≠ gm := by omega
  have ngl : gm ≠ w1.heap.size := by omega
  have hKX4 := (((KX3.far (p := ⟨gm, 0, none⟩) nlg (.int .i64 1)).far (p := ⟨gm, 1, none⟩) nlg (.int .i64 1)).far (p := ⟨gm, 2, none⟩) nlg (.int .i64 1)).far (p := ⟨gm, 3, none⟩) nlg (.int .i64 1)
  have hst : St w ((((W3.setCell ⟨gm, 0, none⟩ (.int .i64 1)).setCell ⟨gm, 1, none⟩ (.int .i64 1)).setCell ⟨gm, 2, none⟩ (.int .i64 1)).setCell ⟨gm, 3, none⟩ (.int .i64 1)) w1.heap.size gm X q Z 0 :=
    ⟨_, Had.start q HQOK.out _ Z HZ.out (by simp [hAs]) (four_at A0 Z (by omega) hAs hAt), (((KA3.put 0 (.int .i64 1)).put 1 (.int .i64 1)).put 2 (.int .i64 1)).put 3 (.int .i64 1), hKX4, (((hbW3.setCell (p := ⟨gm, 0, none⟩) hgw _).setCell (p := ⟨gm, 1, none⟩) hgw _).setCell (p := ⟨gm, 2, none⟩) hgw _).setCell (p := ⟨gm, 3, none⟩) hgw _⟩
  have HKX4 := Lib.hid hKX4
  have HST := Lib.hid hst
  have j0 : (0 : Int) < Z := by omega
  have j1 : (1 : Int) < Z := by omega
  have j2 : (2 : Int) < Z := by omega
  have j3 : (3 : Int) < Z := by omega
  clear hKX4 hst KA3 KX3 hbW3 hAs hAt hA0 hgm hW3 x24 c0 c1 c2 c4 KX hmk hi0 hiz0 hiz1 hiz2
  go_wp2_with (with_reducible (show wpList _ _ _ ({ dst := _, op := Op.load 26 _, type := _, pos := _, after := _, guard := none } :: _) _ _); refine wpList_load_mid rfl 26 _ rfl w1.heap.size 0 rfl X.toList _ (hra.out _ HKX4.out) layFields rfl hxj.out ?_)
  refine (HRS.out _).mono ?_
  rintro e w5 ⟨rfl, hb5⟩
  have hst5 := HST.out.later hb5
  clear k0 k1 k2 k3 f0 f1 f2 f3 y9 y10 y11 y12 hb5
  go_wp2_with fail
  go_loopw [8] (fun i wr => ∃ a : Nat, i = .int .i64 a ∧ a ≤ 64 ∧ St w wr w1.heap.size gm X q Z ((a : Int) * 16 * 14 * 64)) (fun i _ => 64 - (intOf i).toNat)
  case atStart => exact ⟨0, rfl, by omega, hst5.cast (by omega)⟩
  case round =>
    clear hst5
    obtain ⟨a, rfl, ha, hS⟩ := hrel
    by_cases hlt : a < 64
    · have g1 : (a : Int) < 64 := by omega
      go_wp2_with fail
      go_loopw [9] (fun i wr => ∃ b : Nat, i = .int .i64 b ∧ b ≤ 16 ∧ St w wr w1.heap.size gm X q Z (((a : Int) * 16 + b) * 14 * 64)) (fun i _ => 16 - (intOf i).toNat)
      case atStart => exact ⟨0, rfl, by omega, hS.cast (by omega)⟩
      case round =>
        clear hS
        obtain ⟨b, rfl, hb, hS2⟩ := hrel
        by_cases hlt2 : b < 16
        · have g2 : (b : Int) < 16 := by omega
          have hS2' := hS2
          obtain ⟨A', -, -, hBX, -⟩ := hS2'
          have HBX := Lib.hid hBX
          clear hBX
          go_wp2_with (with_reducible (show wpList _ _ _ ({ dst := _, op := Op.load 26 _, type := _, pos := _, after := _, guard := none } :: _) _ _); refine wpList_load_mid rfl 26 _ rfl w1.heap.size 0 rfl X.toList _ (hra.out _ HBX.out) layFields rfl hxj.out ?_)
          refine (HPV.out a b _).mono ?_
          rintro e w6 ⟨pg, rfl, hrow, hb6⟩
          have hS6 := hS2.later hb6
          have npg : pg ≠ gm := by
            rintro rfl
            obtain ⟨A, h1, h2, -, -⟩ := hS6
            have h3 : (Obj.cells A 3 (0, 0)) = _ := Option.some.inj (h2.symm.trans hrow)
            injection h3 with h3
            have := h1.size
            rw [h3] at this
            simp at this
            omega
          obtain ⟨sg, hsg⟩ : ∃ sg, ((b : Int) == 0) = sg := ⟨_, rfl⟩
          have HSG := Lib.hid hsg
          clear hb6 hS2
          go_wp2_with fail
          go_loopw [12] (fun i wr => ∃ k : Nat, i = .int .i64 k ∧ k ≤ 14 ∧ St w wr w1.heap.size gm X q Z ((((a : Int) * 16 + b) * 14 + k) * 64) ∧ Blk wr pg 3 #[.int .i64 (q.val (a : Int) (b : Int) 0), .int .i64 (q.val (a : Int) (b : Int) 1), .int .i64 (q.val (a : Int) (b : Int) 2), .int .i64 (q.val (a : Int) (b : Int) 3), .int .i64 (q.val (a : Int) (b : Int) 4), .int .i64 (q.val (a : Int) (b : Int) 5), .int .i64 (q.val (a : Int) (b : Int) 6), .int .i64 (q.val (a : Int) (b : Int) 7), .int .i64 (q.val (a : Int) (b : Int) 8), .int .i64 (q.val (a : Int) (b : Int) 9), .int .i64 (q.val (a : Int) (b : Int) 10), .int .i64 (q.val (a : Int) (b : Int) 11), .int .i64 (q.val (a : Int) (b : Int) 12), .int .i64 (q.val (a : Int) (b : Int) 13)]) (fun i _ => 14 - (intOf i).toNat)
          case atStart => exact ⟨0, rfl, by omega, hS6.cast (by omega), hrow⟩
          case round =>
            clear hS6 hrow
            obtain ⟨k, rfl, hk, hS3, hrow3⟩ := hrel
            by_cases hlt3 : k < 14
            · by_cases hA : k = 2 ∨ k = 3 ∨ k = 5 ∨ k = 7 ∨ k = 8 ∨ k = 10 ∨ k = 13
              · obtain ⟨vv, hvv⟩ : ∃ x, q.val a b k = x := ⟨_, rfl⟩
                have hk4 : k ≠ 4 := by omega
                have hone : oneK k = false := by rcases hA with h | h | h | h | h | h | h <;> rw [h] <;> rfl
                have hrg : (#[.int .i64 (q.val (a : Int) (b : Int) 0), .int .i64 (q.val (a : Int) (b : Int) 1), .int .i64 (q.val (a : Int) (b : Int) 2), .int .i64 (q.val (a : Int) (b : Int) 3), .int .i64 (q.val (a : Int) (b : Int) 4), .int .i64 (q.val (a : Int) (b : Int) 5), .int .i64 (q.val (a : Int) (b : Int) 6), .int .i64 (q.val (a : Int) (b : Int) 7), .int .i64 (q.val (a : Int) (b : Int) 8), .int .i64 (q.val (a : Int) (b : Int) 9), .int .i64 (q.val (a : Int) (b : Int) 10), .int .i64 (q.val (a : Int) (b : Int) 11), .int .i64 (q.val (a : Int) (b : Int) 12), .int .i64 (q.val (a : Int) (b : Int) 13)] : Array Value)[k]? = some (.int .i64 vv) := by
                  rw [← hvv]
                  rcases hA with h | h | h | h | h | h | h <;> rw [h] <;> rfl
                have HRG := Lib.hid hrg
                have HK4 := Lib.hid hk4
                have HONE := Lib.hid hone
                have t0 : ((k : Int) == 0) = false := by simp; omega
                have t1 : ((k : Int) == 1) = false := by simp; omega
                have t6 : ((k : Int) == 6) = false := by simp; omega
                have t9 : ((k : Int) == 9) = false := by simp; omega
                have t11 : ((k : Int) == 11) = false := by simp; omega
                have t12 : ((k : Int) == 12) = false := by simp; omega
                have t4 : ((k : Int) == 4) = false := by simp; omega
                have g14 : (k : Int) < 14 := by omega
                have rk := (hrow3.cell k).trans HRG.out
                clear hA hrg hk4 hone
                by_cases hneg : vv < 0
                · have d1 : decide (vv < 0) = true := by simp; exact hneg
                  have hS4 := (St.cast hS3 (show _ = ((((a : Int) * 16 + b) * 14 + (k : Nat)) * 64 + 0) by omega)).pass (k := k) HQOK.out HZ.out (by omega) ⟨by omega, by omega⟩ ⟨by omega, by omega⟩ (fun i _ hv => by have := hv.is; omega)
                  have HS := Lib.hid hS4
                  have HRW := Lib.hid hrow3
                  clear hS3 hS4 hrow3 hvv
                  go_wp2_with fail
                  go_roundw
                  case rel => exact ⟨k + 1, by simp, by omega, HS.out, HRW.out⟩
                  case measure => simp [intOf]; omega
                have d1 : decide (vv < 0) = false := by simp; omega
                go_wp2_with fail
                go_loopw [16] (fun i wr => ∃ j : Nat, i = .int .i64 j ∧ (j : Int) ≤ 1 ∧ St w wr w1.heap.size gm X q Z ((((a : Int) * 16 + b) * 14 + (k : Nat)) * 64 + j) ∧ Blk wr pg 3 #[.int .i64 (q.val (a : Int) (b : Int) 0), .int .i64 (q.val (a : Int) (b : Int) 1), .int .i64 (q.val (a : Int) (b : Int) 2), .int .i64 (q.val (a : Int) (b : Int) 3), .int .i64 (q.val (a : Int) (b : Int) 4), .int .i64 (q.val (a : Int) (b : Int) 5), .int .i64 (q.val (a : Int) (b : Int) 6), .int .i64 (q.val (a : Int) (b : Int) 7), .int .i64 (q.val (a : Int) (b : Int) 8), .int .i64 (q.val (a : Int) (b : Int) 9), .int .i64 (q.val (a : Int) (b : Int) 10), .int .i64 (q.val (a : Int) (b : Int) 11), .int .i64 (q.val (a : Int) (b : Int) 12), .int .i64 (q.val (a : Int) (b : Int) 13)]) (fun i _ => 64 - (intOf i).toNat)
                case atStart => exact ⟨0, rfl, by omega, hS3.cast (by omega), hrow3⟩
                case round =>
                  clear hS3 hrow3 rk
                  obtain ⟨j, rfl, hj, hS4, hrow4⟩ := hrel
                  have rk := (hrow4.cell k).trans HRG.out
                  by_cases hlt5 : (j : Int) < 1
                  · obtain ⟨A, hA, hBA, hBX, hbl⟩ := hS4
                    have hvis : q.Vis k a b j := ⟨by omega, by rw [hvv]; omega, (fun h => by rw [HONE.out] at h; cases h), by omega, by unfold manyK; rw [if_neg HK4.out]; omega⟩
                    obtain ⟨x0, hx0⟩ : ∃ x : Nat, (x : Int) = vv + j := ⟨(vv + j).toNat, by omega⟩
                    obtain ⟨hxZ, hx1, hA2⟩ := Had.visit k a b j hA HQOK.out HZ.out hvis ⟨by omega, by omega⟩ (by omega) x0 (by rw [hvv]; exact hx0)
                    have e1 : IntKind.i64.wrap (vv + j) = x0 := by rw [IntKind.wrap_i64]; omega
                    have e3 : vv + (j : Int) = x0 := hx0.symm
                    have g5 : (x0 : Int) < Z := by omega
                    have lp := hrow4.lt
                    have lx := hBX.lt
                    have rx := (hBX.cell 24).trans HX24.out
                    have yr := fun (y : After _) => (y.cell lp).trans rk
                    have yx := fun (y : After _) => (y.cell lx).trans rx
                    have HA2 := Lib.hid hA2
                    have HBA := Lib.hid hBA
                    have HBX := Lib.hid hBX
                    have HBL := Lib.hid hbl
                    have HROW := Lib.hid hrow4
                    have HX1 := Lib.hid hx1
                    clear hA hBA hBX hbl hvis hA2 hx0 hx1 hrow4 hvv lp lx rx
                    go_wp2_with fail
                    refine wp_region_after (by kernel_rfl) (by kernel_rfl) ?_
                    repeat (go_big_quiet_step (fail))
                    refine wpQuiet_nil ?_
                    rintro _ ⟨y, rfl⟩
                    have hB1 := HBA.out.later y.bel
                    have xc := (hB1.cell x0).trans HX1.out
                    have fz := hB1.free x0
                    have rk2 := yr y
                    have HB1 := Lib.hid hB1
                    have HX2 := Lib.hid (HBX.out.later y.bel)
                    have HR1 := Lib.hid (HROW.out.later y.bel)
                    have HL1 := Lib.hid (HBL.out.trans (y.bel.mono HBL.out.size))
                    clear yr yx e1 rk hB1
                    go_wp2_with fail
                    go_roundw
                    case rel => exact ⟨j + 1, by simp, by omega, St.cast ⟨_, HA2.out, HB1.out.put x0 _, HX2.out.far (p := ⟨gm, x0, none⟩) nlg _, HL1.out.setCell (p := ⟨gm, x0, none⟩) hgw _⟩ (by unfold code; simp only; omega), HR1.out.far (p := ⟨gm, x0, none⟩) npg _⟩
                    case measure => simp [intOf]; omega
                  · have hd5 : decide ((j : Int) < 1) = false := by simp; omega
                    have hS5 := (St.cast hS4 (show _ = ((((a : Int) * 16 + b) * 14 + (k : Nat)) * 64 + 1) by omega)).pass (k := k) HQOK.out HZ.out (by omega) ⟨by omega, by omega⟩ ⟨by omega, by omega⟩ (fun i hi hv => by have h := hv.hi; unfold manyK at h; rw [if_neg HK4.out] at h; omega)
                    have HS := Lib.hid hS5
                    have HRW := Lib.hid hrow4
                    clear hS4 hS5 hrow4 hvv
                    go_wp2_with fail
                    go_roundw
                    case rel => exact ⟨k + 1, by simp, by omega, HS.out, HRW.out⟩
                    case measure => simp [intOf]; omega
              rcases (show k = 0 ∨ k = 1 ∨ k = 4 ∨ k = 6 ∨ k = 9 ∨ k = 11 ∨ k = 12 by omega) with rfl | rfl | rfl | rfl | rfl | rfl | rfl
              · obtain ⟨vv, hvv⟩ : ∃ x, q.val a b 0 = x := ⟨_, rfl⟩
                have rk := (hrow3.cell 0).trans (show _ = some (.int .i64 vv) by rw [← hvv]; rfl)
                by_cases hneg : vv < 0
                · have d1 : decide (vv < 0) = true := by simp; exact hneg
                  have hS4 := (St.cast hS3 (show _ = ((((a : Int) * 16 + b) * 14 + (0 : Nat)) * 64 + 0) by omega)).pass (k := 0) HQOK.out HZ.out (by omega) ⟨by omega, by omega⟩ ⟨by omega, by omega⟩ (fun i _ hv => by have := hv.is; omega)
                  have HS := Lib.hid hS4
                  have HRW := Lib.hid hrow3
                  clear hS3 hS4 hrow3 hvv
                  go_wp2_with fail
                  go_roundw
                  case rel => exact ⟨1, by simp, by omega, HS.out, HRW.out⟩
                  case measure => simp [intOf]
                have d1 : decide (vv < 0) = false := by simp; omega
                cases sg
                · have hb0 : (b : Int) ≠ 0 := by have := HSG.out; simpa using this
                  have hS4 := (St.cast hS3 (show _ = ((((a : Int) * 16 + b) * 14 + (0 : Nat)) * 64 + 0) by omega)).pass (k := 0) HQOK.out HZ.out (by omega) ⟨by omega, by omega⟩ ⟨by omega, by omega⟩ (fun i _ hv => hb0 (hv.one rfl))
                  have HS := Lib.hid hS4
                  have HRW := Lib.hid hrow3
                  clear hS3 hS4 hrow3 hvv
                  go_wp2_with fail
                  go_roundw
                  case rel => exact ⟨1, by simp, by omega, HS.out, HRW.out⟩
                  case measure => simp [intOf]
                have HB0 := Lib.hid (show (b : Int) = 0 by have := HSG.out; simpa using this)
                go_wp2_with fail
                go_loopw [16] (fun i wr => ∃ j : Nat, i = .int .i64 j ∧ (j : Int) ≤ 1 ∧ St w wr w1.heap.size gm X q Z ((((a : Int) * 16 + b) * 14 + (0 : Nat)) * 64 + j) ∧ Blk wr pg 3 #[.int .i64 (q.val (a : Int) (b : Int) 0), .int .i64 (q.val (a : Int) (b : Int) 1), .int .i64 (q.val (a : Int) (b : Int) 2), .int .i64 (q.val (a : Int) (b : Int) 3), .int .i64 (q.val (a : Int) (b : Int) 4), .int .i64 (q.val (a : Int) (b : Int) 5), .int .i64 (q.val (a : Int) (b : Int) 6), .int .i64 (q.val (a : Int) (b : Int) 7), .int .i64 (q.val (a : Int) (b : Int) 8), .int .i64 (q.val (a : Int) (b : Int) 9), .int .i64 (q.val (a : Int) (b : Int) 10), .int .i64 (q.val (a : Int) (b : Int) 11), .int .i64 (q.val (a : Int) (b : Int) 12), .int .i64 (q.val (a : Int) (b : Int) 13)]) (fun i _ => 64 - (intOf i).toNat)
                case atStart => exact ⟨0, rfl, by omega, hS3.cast (by omega), hrow3⟩
                case round =>
                  clear hS3 hrow3 rk
                  obtain ⟨j, rfl, hj, hS4, hrow4⟩ := hrel
                  have rk := (hrow4.cell 0).trans (show _ = some (.int .i64 vv) by rw [← hvv]; rfl)
                  by_cases hlt5 : (j : Int) < 1
                  · obtain ⟨A, hA, hBA, hBX, hbl⟩ := hS4
                    have hvis : q.Vis 0 a b j := ⟨by omega, by rw [hvv]; omega, fun _ => HB0.out, by omega, by unfold manyK; rw [if_neg (by decide)]; omega⟩
                    obtain ⟨x0, hx0⟩ : ∃ x : Nat, (x : Int) = vv + j := ⟨(vv + j).toNat, by omega⟩
                    obtain ⟨hxZ, hx1, hA2⟩ := Had.visit 0 a b j hA HQOK.out HZ.out hvis ⟨by omega, by omega⟩ (by omega) x0 (by rw [hvv]; exact hx0)
                    have e1 : IntKind.i64.wrap (vv + j) = x0 := by rw [IntKind.wrap_i64]; omega
                    have e3 : vv + (j : Int) = x0 := hx0.symm
                    have g5 : (x0 : Int) < Z := by omega
                    have lp := hrow4.lt
                    have lx := hBX.lt
                    have rx := (hBX.cell 24).trans HX24.out
                    have yr := fun (y : After _) => (y.cell lp).trans rk
                    have yx := fun (y : After _) => (y.cell lx).trans rx
                    have HA2 := Lib.hid hA2
                    have HBA := Lib.hid hBA
                    have HBX := Lib.hid hBX
                    have HBL := Lib.hid hbl
                    have HROW := Lib.hid hrow4
                    have HX1 := Lib.hid hx1
                    clear hA hBA hBX hbl hvis hA2 hx0 hx1 hrow4 hvv lp lx rx
                    go_wp2_with fail
                    refine wp_region_after (by kernel_rfl) (by kernel_rfl) ?_
                    repeat (go_big_quiet_step (fail))
                    refine wpQuiet_nil ?_
                    rintro _ ⟨y, rfl⟩
                    have hB1 := HBA.out.later y.bel
                    have xc := (hB1.cell x0).trans HX1.out
                    have fz := hB1.free x0
                    have rk2 := yr y
                    have HB1 := Lib.hid hB1
                    have HX2 := Lib.hid (HBX.out.later y.bel)
                    have HR1 := Lib.hid (HROW.out.later y.bel)
                    have HL1 := Lib.hid (HBL.out.trans (y.bel.mono HBL.out.size))
                    clear yr yx e1 rk hB1
                    go_wp2_with fail
                    go_roundw
                    case rel => exact ⟨j + 1, by simp, by omega, St.cast ⟨_, HA2.out, HB1.out.put x0 _, HX2.out.far (p := ⟨gm, x0, none⟩) nlg _, HL1.out.setCell (p := ⟨gm, x0, none⟩) hgw _⟩ (by unfold code; simp only; omega), HR1.out.far (p := ⟨gm, x0, none⟩) npg _⟩
                    case measure => simp [intOf]; omega
                  · have hd5 : decide ((j : Int) < 1) = false := by simp; omega
                    have hS5 := (St.cast hS4 (show _ = ((((a : Int) * 16 + b) * 14 + (0 : Nat)) * 64 + 1) by omega)).pass (k := 0) HQOK.out HZ.out (by omega) ⟨by omega, by omega⟩ ⟨by omega, by omega⟩ (fun i hi hv => by have h := hv.hi; unfold manyK at h; rw [if_neg (by decide)] at h; omega)
                    have HS := Lib.hid hS5
                    have HRW := Lib.hid hrow4
                    clear hS4 hS5 hrow4 hvv
                    go_wp2_with fail
                    go_roundw
                    case rel => exact ⟨1, by simp, by omega, HS.out, HRW.out⟩
                    case measure => simp [intOf]
              · obtain ⟨vv, hvv⟩ : ∃ x, q.val a b 1 = x := ⟨_, rfl⟩
                have rk := (hrow3.cell 1).trans (show _ = some (.int .i64 vv) by rw [← hvv]; rfl)
                by_cases hneg : vv < 0
                · have d1 : decide (vv < 0) = true := by simp; exact hneg
                  have hS4 := (St.cast hS3 (show _ = ((((a : Int) * 16 + b) * 14 + (1 : Nat)) * 64 + 0) by omega)).pass (k := 1) HQOK.out HZ.out (by omega) ⟨by omega, by omega⟩ ⟨by omega, by omega⟩ (fun i _ hv => by have := hv.is; omega)
                  have HS := Lib.hid hS4
                  have HRW := Lib.hid hrow3
                  clear hS3 hS4 hrow3 hvv
                  go_wp2_with fail
                  go_roundw
                  case rel => exact ⟨2, by simp, by omega, HS.out, HRW.out⟩
                  case measure => simp [intOf]
                have d1 : decide (vv < 0) = false := by simp; omega
                cases sg
                · have hb0 : (b : Int) ≠ 0 := by have := HSG.out; simpa using this
                  have hS4 := (St.cast hS3 (show _ = ((((a : Int) * 16 + b) * 14 + (1 : Nat)) * 64 + 0) by omega)).pass (k := 1) HQOK.out HZ.out (by omega) ⟨by omega, by omega⟩ ⟨by omega, by omega⟩ (fun i _ hv => hb0 (hv.one rfl))
                  have HS := Lib.hid hS4
                  have HRW := Lib.hid hrow3
                  clear hS3 hS4 hrow3 hvv
                  go_wp2_with fail
                  go_roundw
                  case rel => exact ⟨2, by simp, by omega, HS.out, HRW.out⟩
                  case measure => simp [intOf]
                have HB0 := Lib.hid (show (b : Int) = 0 by have := HSG.out; simpa using this)
                go_wp2_with fail
                go_loopw [16] (fun i wr => ∃ j : Nat, i = .int .i64 j ∧ (j : Int) ≤ 1 ∧ St w wr w1.heap.size gm X q Z ((((a : Int) * 16 + b) * 14 + (1 : Nat)) * 64 + j) ∧ Blk wr pg 3 #[.int .i64 (q.val (a : Int) (b : Int) 0), .int .i64 (q.val (a : Int) (b : Int) 1), .int .i64 (q.val (a : Int) (b : Int) 2), .int .i64 (q.val (a : Int) (b : Int) 3), .int .i64 (q.val (a : Int) (b : Int) 4), .int .i64 (q.val (a : Int) (b : Int) 5), .int .i64 (q.val (a : Int) (b : Int) 6), .int .i64 (q.val (a : Int) (b : Int) 7), .int .i64 (q.val (a : Int) (b : Int) 8), .int .i64 (q.val (a : Int) (b : Int) 9), .int .i64 (q.val (a : Int) (b : Int) 10), .int .i64 (q.val (a : Int) (b : Int) 11), .int .i64 (q.val (a : Int) (b : Int) 12), .int .i64 (q.val (a : Int) (b : Int) 13)]) (fun i _ => 64 - (intOf i).toNat)
                case atStart => exact ⟨0, rfl, by omega, hS3.cast (by omega), hrow3⟩
                case round =>
                  clear hS3 hrow3 rk
                  obtain ⟨j, rfl, hj, hS4, hrow4⟩ := hrel
                  have rk := (hrow4.cell 1).trans (show _ = some (.int .i64 vv) by rw [← hvv]; rfl)
                  by_cases hlt5 : (j : Int) < 1
                  · obtain ⟨A, hA, hBA, hBX, hbl⟩ := hS4
                    have hvis : q.Vis 1 a b j := ⟨by omega, by rw [hvv]; omega, fun _ => HB0.out, by omega, by unfold manyK; rw [if_neg (by decide)]; omega⟩
                    obtain ⟨x0, hx0⟩ : ∃ x : Nat, (x : Int) = vv + j := ⟨(vv + j).toNat, by omega⟩
                    obtain ⟨hxZ, hx1, hA2⟩ := Had.visit 1 a b j hA HQOK.out HZ.out hvis ⟨by omega, by omega⟩ (by omega) x0 (by rw [hvv]; exact hx0)
                    have e1 : IntKind.i64.wrap (vv + j) = x0 := by rw [IntKind.wrap_i64]; omega
                    have e3 : vv + (j : Int) = x0 := hx0.symm
                    have g5 : (x0 : Int) < Z := by omega
                    have lp := hrow4.lt
                    have lx := hBX.lt
                    have rx := (hBX.cell 24).trans HX24.out
                    have yr := fun (y : After _) => (y.cell lp).trans rk
                    have yx := fun (y : After _) => (y.cell lx).trans rx
                    have HA2 := Lib.hid hA2
                    have HBA := Lib.hid hBA
                    have HBX := Lib.hid hBX
                    have HBL := Lib.hid hbl
                    have HROW := Lib.hid hrow4
                    have HX1 := Lib.hid hx1
                    clear hA hBA hBX hbl hvis hA2 hx0 hx1 hrow4 hvv lp lx rx
                    go_wp2_with fail
                    refine wp_region_after (by kernel_rfl) (by kernel_rfl) ?_
                    repeat (go_big_quiet_step (fail))
                    refine wpQuiet_nil ?_
                    rintro _ ⟨y, rfl⟩
                    have hB1 := HBA.out.later y.bel
                    have xc := (hB1.cell x0).trans HX1.out
                    have fz := hB1.free x0
                    have rk2 := yr y
                    have HB1 := Lib.hid hB1
                    have HX2 := Lib.hid (HBX.out.later y.bel)
                    have HR1 := Lib.hid (HROW.out.later y.bel)
                    have HL1 := Lib.hid (HBL.out.trans (y.bel.mono HBL.out.size))
                    clear yr yx e1 rk hB1
                    go_wp2_with fail
                    go_roundw
                    case rel => exact ⟨j + 1, by simp, by omega, St.cast ⟨_, HA2.out, HB1.out.put x0 _, HX2.out.far (p := ⟨gm, x0, none⟩) nlg _, HL1.out.setCell (p := ⟨gm, x0, none⟩) hgw _⟩ (by unfold code; simp only; omega), HR1.out.far (p := ⟨gm, x0, none⟩) npg _⟩
                    case measure => simp [intOf]; omega
                  · have hd5 : decide ((j : Int) < 1) = false := by simp; omega
                    have hS5 := (St.cast hS4 (show _ = ((((a : Int) * 16 + b) * 14 + (1 : Nat)) * 64 + 1) by omega)).pass (k := 1) HQOK.out HZ.out (by omega) ⟨by omega, by omega⟩ ⟨by omega, by omega⟩ (fun i hi hv => by have h := hv.hi; unfold manyK at h; rw [if_neg (by decide)] at h; omega)
                    have HS := Lib.hid hS5
                    have HRW := Lib.hid hrow4
                    clear hS4 hS5 hrow4 hvv
                    go_wp2_with fail
                    go_roundw
                    case rel => exact ⟨2, by simp, by omega, HS.out, HRW.out⟩
                    case measure => simp [intOf]
              · obtain ⟨vv, hvv⟩ : ∃ x, q.val a b 4 = x := ⟨_, rfl⟩
                have rk := (hrow3.cell 4).trans (show _ = some (.int .i64 vv) by rw [← hvv]; rfl)
                by_cases hneg : vv < 0
                · have d1 : decide (vv < 0) = true := by simp; exact hneg
                  have hS4 := (St.cast hS3 (show _ = ((((a : Int) * 16 + b) * 14 + (4 : Nat)) * 64 + 0) by omega)).pass (k := 4) HQOK.out HZ.out (by omega) ⟨by omega, by omega⟩ ⟨by omega, by omega⟩ (fun i _ hv => by have := hv.is; omega)
                  have HS := Lib.hid hS4
                  have HRW := Lib.hid hrow3
                  clear hS3 hS4 hrow3 hvv
                  go_wp2_with fail
                  go_roundw
                  case rel => exact ⟨5, by simp, by omega, HS.out, HRW.out⟩
                  case measure => simp [intOf]
                have d1 : decide (vv < 0) = false := by simp; omega
                have hbR : (b : Int) < R := Classical.byContradiction fun hno => by
                  have h1 : q.val a b 4 = -1 := ringV_out q.s q.t (4 + 8 * q.s) a b (by rw [show ringsP q.t = R by rw [HQ.out]; exact HR.out]; omega)
                  omega
                have hb4 : b ≤ 4 := by omega
                obtain ⟨zb, hzb⟩ : ∃ z, sizeP b = z := ⟨_, rfl⟩
                have hzb2 : 4 ≤ zb ∧ zb ≤ 64 := by
                  rw [← hzb]
                  rcases (show b = 0 ∨ b = 1 ∨ b = 2 ∨ b = 3 ∨ b = 4 by omega) with h | h | h | h | h <;> rw [h] <;> decide
                have hdR : decide (R ≤ (b : Int)) = false := by simp; omega
                go_wp2_with fail
                go_loop [14, 15] (fun m i => ∃ r : Nat, i = .int .i64 r ∧ r ≤ b ∧ m = .int .i64 (sizeP r)) (fun _ i => 16 - (intOf i).toNat)
                case atStart => exact ⟨0, rfl, by omega, rfl⟩
                case round =>
                  obtain ⟨r, rfl, hrb, rfl⟩ := hrel
                  by_cases hlt6 : r < b
                  · have ht2 := size_twice r (by omega) (by omega)
                    have hl2 := size_le r
                    have HT2 := Lib.hid ht2
                    obtain ⟨z, hz⟩ : ∃ z, sizeP r = z := ⟨_, rfl⟩
                    rw [hz] at HT2 hl2 ⊢
                    have g6 : (r : Int) < b := by omega
                    clear hz ht2
                    go_wp2_with fail
                    go_round
                    case rel => exact ⟨r + 1, by simp, by omega, by rw [show ((r + 1 : Nat) : Int) = r + 1 by simp, HT2.out]⟩
                    case measure => simp [intOf]; omega
                  · have hrb2 : b = r := by omega
                    have hd6 : decide ((r : Int) < b) = false := by simp; omega
                    rw [← hrb2, hzb]
                    rw [← hrb2] at hd6
                    clear hrb2 hrb hlt6
                    go_wp2_with fail
                    go_loopw [16] (fun i wr => ∃ j : Nat, i = .int .i64 j ∧ (j : Int) ≤ zb ∧ St w wr w1.heap.size gm X q Z ((((a : Int) * 16 + b) * 14 + (4 : Nat)) * 64 + j) ∧ Blk wr pg 3 #[.int .i64 (q.val (a : Int) (b : Int) 0), .int .i64 (q.val (a : Int) (b : Int) 1), .int .i64 (q.val (a : Int) (b : Int) 2), .int .i64 (q.val (a : Int) (b : Int) 3), .int .i64 (q.val (a : Int) (b : Int) 4), .int .i64 (q.val (a : Int) (b : Int) 5), .int .i64 (q.val (a : Int) (b : Int) 6), .int .i64 (q.val (a : Int) (b : Int) 7), .int .i64 (q.val (a : Int) (b : Int) 8), .int .i64 (q.val (a : Int) (b : Int) 9), .int .i64 (q.val (a : Int) (b : Int) 10), .int .i64 (q.val (a : Int) (b : Int) 11), .int .i64 (q.val (a : Int) (b : Int) 12), .int .i64 (q.val (a : Int) (b : Int) 13)]) (fun i _ => 64 - (intOf i).toNat)
                    case atStart => exact ⟨0, rfl, by omega, hS3.cast (by omega), hrow3⟩
                    case round =>
                      clear hS3 hrow3 rk
                      obtain ⟨j, rfl, hj, hS4, hrow4⟩ := hrel
                      have rk := (hrow4.cell 4).trans (show _ = some (.int .i64 vv) by rw [← hvv]; rfl)
                      by_cases hlt5 : (j : Int) < zb
                      · obtain ⟨A, hA, hBA, hBX, hbl⟩ := hS4
                        have hvis : q.Vis 4 a b j := ⟨by omega, by rw [hvv]; omega, fun h => absurd h (by decide), by omega, by show (j : Int) < sizeP b; rw [hzb]; omega⟩
                        obtain ⟨x0, hx0⟩ : ∃ x : Nat, (x : Int) = vv + j := ⟨(vv + j).toNat, by omega⟩
                        obtain ⟨hxZ, hx1, hA2⟩ := Had.visit 4 a b j hA HQOK.out HZ.out hvis ⟨by omega, by omega⟩ (by omega) x0 (by rw [hvv]; exact hx0)
                        have e1 : IntKind.i64.wrap (vv + j) = x0 := by rw [IntKind.wrap_i64]; omega
                        have e3 : vv + (j : Int) = x0 := hx0.symm
                        have g5 : (x0 : Int) < Z := by omega
                        have lp := hrow4.lt
                        have lx := hBX.lt
                        have rx := (hBX.cell 24).trans HX24.out
                        have yr := fun (y : After _) => (y.cell lp).trans rk
                        have yx := fun (y : After _) => (y.cell lx).trans rx
                        have HA2 := Lib.hid hA2
                        have HBA := Lib.hid hBA
                        have HBX := Lib.hid hBX
                        have HBL := Lib.hid hbl
                        have HROW := Lib.hid hrow4
                        have HX1 := Lib.hid hx1
                        clear hA hBA hBX hbl hvis hA2 hx0 hx1 hrow4 hvv lp lx rx
                        go_wp2_with fail
                        refine wp_region_after (by kernel_rfl) (by kernel_rfl) ?_
                        repeat (go_big_quiet_step (fail))
                        refine wpQuiet_nil ?_
                        rintro _ ⟨y, rfl⟩
                        have hB1 := HBA.out.later y.bel
                        have xc := (hB1.cell x0).trans HX1.out
                        have fz := hB1.free x0
                        have rk2 := yr y
                        have HB1 := Lib.hid hB1
                        have HX2 := Lib.hid (HBX.out.later y.bel)
                        have HR1 := Lib.hid (HROW.out.later y.bel)
                        have HL1 := Lib.hid (HBL.out.trans (y.bel.mono HBL.out.size))
                        clear yr yx e1 rk hB1
                        go_wp2_with fail
                        go_roundw
                        case rel => exact ⟨j + 1, by simp, by omega, St.cast ⟨_, HA2.out, HB1.out.put x0 _, HX2.out.far (p := ⟨gm, x0, none⟩) nlg _, HL1.out.setCell (p := ⟨gm, x0, none⟩) hgw _⟩ (by unfold code; simp only; omega), HR1.out.far (p := ⟨gm, x0, none⟩) npg _⟩
                        case measure => simp [intOf]; omega
                      · have hd5 : decide ((j : Int) < zb) = false := by simp; omega
                        have hS5 := (St.cast hS4 (show _ = ((((a : Int) * 16 + b) * 14 + (4 : Nat)) * 64 + zb) by omega)).pass (k := 4) HQOK.out HZ.out (by omega) ⟨by omega, by omega⟩ ⟨by omega, by omega⟩ (fun i hi hv => by have h : i < sizeP b := hv.hi; rw [hzb] at h; omega)
                        have HS := Lib.hid hS5
                        have HRW := Lib.hid hrow4
                        clear hS4 hS5 hrow4 hvv
                        go_wp2_with fail
                        go_roundw
                        case rel => exact ⟨5, by simp, by omega, HS.out, HRW.out⟩
                        case measure => simp [intOf]
              · obtain ⟨vv, hvv⟩ : ∃ x, q.val a b 6 = x := ⟨_, rfl⟩
                have rk := (hrow3.cell 6).trans (show _ = some (.int .i64 vv) by rw [← hvv]; rfl)
                by_cases hneg : vv < 0
                · have d1 : decide (vv < 0) = true := by simp; exact hneg
                  have hS4 := (St.cast hS3 (show _ = ((((a : Int) * 16 + b) * 14 + (6 : Nat)) * 64 + 0) by omega)).pass (k := 6) HQOK.out HZ.out (by omega) ⟨by omega, by omega⟩ ⟨by omega, by omega⟩ (fun i _ hv => by have := hv.is; omega)
                  have HS := Lib.hid hS4
                  have HRW := Lib.hid hrow3
                  clear hS3 hS4 hrow3 hvv
                  go_wp2_with fail
                  go_roundw
                  case rel => exact ⟨7, by simp, by omega, HS.out, HRW.out⟩
                  case measure => simp [intOf]
                have d1 : decide (vv < 0) = false := by simp; omega
                cases sg
                · have hb0 : (b : Int) ≠ 0 := by have := HSG.out; simpa using this
                  have hS4 := (St.cast hS3 (show _ = ((((a : Int) * 16 + b) * 14 + (6 : Nat)) * 64 + 0) by omega)).pass (k := 6) HQOK.out HZ.out (by omega) ⟨by omega, by omega⟩ ⟨by omega, by omega⟩ (fun i _ hv => hb0 (hv.one rfl))
                  have HS := Lib.hid hS4
                  have HRW := Lib.hid hrow3
                  clear hS3 hS4 hrow3 hvv
                  go_wp2_with fail
                  go_roundw
                  case rel => exact ⟨7, by simp, by omega, HS.out, HRW.out⟩
                  case measure => simp [intOf]
                have HB0 := Lib.hid (show (b : Int) = 0 by have := HSG.out; simpa using this)
                go_wp2_with fail
                go_loopw [16] (fun i wr => ∃ j : Nat, i = .int .i64 j ∧ (j : Int) ≤ 1 ∧ St w wr w1.heap.size gm X q Z ((((a : Int) * 16 + b) * 14 + (6 : Nat)) * 64 + j) ∧ Blk wr pg 3 #[.int .i64 (q.val (a : Int) (b : Int) 0), .int .i64 (q.val (a : Int) (b : Int) 1), .int .i64 (q.val (a : Int) (b : Int) 2), .int .i64 (q.val (a : Int) (b : Int) 3), .int .i64 (q.val (a : Int) (b : Int) 4), .int .i64 (q.val (a : Int) (b : Int) 5), .int .i64 (q.val (a : Int) (b : Int) 6), .int .i64 (q.val (a : Int) (b : Int) 7), .int .i64 (q.val (a : Int) (b : Int) 8), .int .i64 (q.val (a : Int) (b : Int) 9), .int .i64 (q.val (a : Int) (b : Int) 10), .int .i64 (q.val (a : Int) (b : Int) 11), .int .i64 (q.val (a : Int) (b : Int) 12), .int .i64 (q.val (a : Int) (b : Int) 13)]) (fun i _ => 64 - (intOf i).toNat)
                case atStart => exact ⟨0, rfl, by omega, hS3.cast (by omega), hrow3⟩
                case round =>
                  clear hS3 hrow3 rk
                  obtain ⟨j, rfl, hj, hS4, hrow4⟩ := hrel
                  have rk := (hrow4.cell 6).trans (show _ = some (.int .i64 vv) by rw [← hvv]; rfl)
                  by_cases hlt5 : (j : Int) < 1
                  · obtain ⟨A, hA, hBA, hBX, hbl⟩ := hS4
                    have hvis : q.Vis 6 a b j := ⟨by omega, by rw [hvv]; omega, fun _ => HB0.out, by omega, by unfold manyK; rw [if_neg (by decide)]; omega⟩
                    obtain ⟨x0, hx0⟩ : ∃ x : Nat, (x : Int) = vv + j := ⟨(vv + j).toNat, by omega⟩
                    obtain ⟨hxZ, hx1, hA2⟩ := Had.visit 6 a b j hA HQOK.out HZ.out hvis ⟨by omega, by omega⟩ (by omega) x0 (by rw [hvv]; exact hx0)
                    have e1 : IntKind.i64.wrap (vv + j) = x0 := by rw [IntKind.wrap_i64]; omega
                    have e3 : vv + (j : Int) = x0 := hx0.symm
                    have g5 : (x0 : Int) < Z := by omega
                    have lp := hrow4.lt
                    have lx := hBX.lt
                    have rx := (hBX.cell 24).trans HX24.out
                    have yr := fun (y : After _) => (y.cell lp).trans rk
                    have yx := fun (y : After _) => (y.cell lx).trans rx
                    have HA2 := Lib.hid hA2
                    have HBA := Lib.hid hBA
                    have HBX := Lib.hid hBX
                    have HBL := Lib.hid hbl
                    have HROW := Lib.hid hrow4
                    have HX1 := Lib.hid hx1
                    clear hA hBA hBX hbl hvis hA2 hx0 hx1 hrow4 hvv lp lx rx
                    go_wp2_with fail
                    refine wp_region_after (by kernel_rfl) (by kernel_rfl) ?_
                    repeat (go_big_quiet_step (fail))
                    refine wpQuiet_nil ?_
                    rintro _ ⟨y, rfl⟩
                    have hB1 := HBA.out.later y.bel
                    have xc := (hB1.cell x0).trans HX1.out
                    have fz := hB1.free x0
                    have rk2 := yr y
                    have HB1 := Lib.hid hB1
                    have HX2 := Lib.hid (HBX.out.later y.bel)
                    have HR1 := Lib.hid (HROW.out.later y.bel)
                    have HL1 := Lib.hid (HBL.out.trans (y.bel.mono HBL.out.size))
                    clear yr yx e1 rk hB1
                    go_wp2_with fail
                    go_roundw
                    case rel => exact ⟨j + 1, by simp, by omega, St.cast ⟨_, HA2.out, HB1.out.put x0 _, HX2.out.far (p := ⟨gm, x0, none⟩) nlg _, HL1.out.setCell (p := ⟨gm, x0, none⟩) hgw _⟩ (by unfold code; simp only; omega), HR1.out.far (p := ⟨gm, x0, none⟩) npg _⟩
                    case measure => simp [intOf]; omega
                  · have hd5 : decide ((j : Int) < 1) = false := by simp; omega
                    have hS5 := (St.cast hS4 (show _ = ((((a : Int) * 16 + b) * 14 + (6 : Nat)) * 64 + 1) by omega)).pass (k := 6) HQOK.out HZ.out (by omega) ⟨by omega, by omega⟩ ⟨by omega, by omega⟩ (fun i hi hv => by have h := hv.hi; unfold manyK at h; rw [if_neg (by decide)] at h; omega)
                    have HS := Lib.hid hS5
                    have HRW := Lib.hid hrow4
                    clear hS4 hS5 hrow4 hvv
                    go_wp2_with fail
                    go_roundw
                    case rel => exact ⟨7, by simp, by omega, HS.out, HRW.out⟩
                    case measure => simp [intOf]
              · obtain ⟨vv, hvv⟩ : ∃ x, q.val a b 9 = x := ⟨_, rfl⟩
                have rk := (hrow3.cell 9).trans (show _ = some (.int .i64 vv) by rw [← hvv]; rfl)
                by_cases hneg : vv < 0
                · have d1 : decide (vv < 0) = true := by simp; exact hneg
                  have hS4 := (St.cast hS3 (show _ = ((((a : Int) * 16 + b) * 14 + (9 : Nat)) * 64 + 0) by omega)).pass (k := 9) HQOK.out HZ.out (by omega) ⟨by omega, by omega⟩ ⟨by omega, by omega⟩ (fun i _ hv => by have := hv.is; omega)
                  have HS := Lib.hid hS4
                  have HRW := Lib.hid hrow3
                  clear hS3 hS4 hrow3 hvv
                  go_wp2_with fail
                  go_roundw
                  case rel => exact ⟨10, by simp, by omega, HS.out, HRW.out⟩
                  case measure => simp [intOf]
                have d1 : decide (vv < 0) = false := by simp; omega
                cases sg
                · have hb0 : (b : Int) ≠ 0 := by have := HSG.out; simpa using this
                  have hS4 := (St.cast hS3 (show _ = ((((a : Int) * 16 + b) * 14 + (9 : Nat)) * 64 + 0) by omega)).pass (k := 9) HQOK.out HZ.out (by omega) ⟨by omega, by omega⟩ ⟨by omega, by omega⟩ (fun i _ hv => hb0 (hv.one rfl))
                  have HS := Lib.hid hS4
                  have HRW := Lib.hid hrow3
                  clear hS3 hS4 hrow3 hvv
                  go_wp2_with fail
                  go_roundw
                  case rel => exact ⟨10, by simp, by omega, HS.out, HRW.out⟩
                  case measure => simp [intOf]
                have HB0 := Lib.hid (show (b : Int) = 0 by have := HSG.out; simpa using this)
                go_wp2_with fail
                go_loopw [16] (fun i wr => ∃ j : Nat, i = .int .i64 j ∧ (j : Int) ≤ 1 ∧ St w wr w1.heap.size gm X q Z ((((a : Int) * 16 + b) * 14 + (9 : Nat)) * 64 + j) ∧ Blk wr pg 3 #[.int .i64 (q.val (a : Int) (b : Int) 0), .int .i64 (q.val (a : Int) (b : Int) 1), .int .i64 (q.val (a : Int) (b : Int) 2), .int .i64 (q.val (a : Int) (b : Int) 3), .int .i64 (q.val (a : Int) (b : Int) 4), .int .i64 (q.val (a : Int) (b : Int) 5), .int .i64 (q.val (a : Int) (b : Int) 6), .int .i64 (q.val (a : Int) (b : Int) 7), .int .i64 (q.val (a : Int) (b : Int) 8), .int .i64 (q.val (a : Int) (b : Int) 9), .int .i64 (q.val (a : Int) (b : Int) 10), .int .i64 (q.val (a : Int) (b : Int) 11), .int .i64 (q.val (a : Int) (b : Int) 12), .int .i64 (q.val (a : Int) (b : Int) 13)]) (fun i _ => 64 - (intOf i).toNat)
                case atStart => exact ⟨0, rfl, by omega, hS3.cast (by omega), hrow3⟩
                case round =>
                  clear hS3 hrow3 rk
                  obtain ⟨j, rfl, hj, hS4, hrow4⟩ := hrel
                  have rk := (hrow4.cell 9).trans (show _ = some (.int .i64 vv) by rw [← hvv]; rfl)
                  by_cases hlt5 : (j : Int) < 1
                  · obtain ⟨A, hA, hBA, hBX, hbl⟩ := hS4
                    have hvis : q.Vis 9 a b j := ⟨by omega, by rw [hvv]; omega, fun _ => HB0.out, by omega, by unfold manyK; rw [if_neg (by decide)]; omega⟩
                    obtain ⟨x0, hx0⟩ : ∃ x : Nat, (x : Int) = vv + j := ⟨(vv + j).toNat, by omega⟩
                    obtain ⟨hxZ, hx1, hA2⟩ := Had.visit 9 a b j hA HQOK.out HZ.out hvis ⟨by omega, by omega⟩ (by omega) x0 (by rw [hvv]; exact hx0)
                    have e1 : IntKind.i64.wrap (vv + j) = x0 := by rw [IntKind.wrap_i64]; omega
                    have e3 : vv + (j : Int) = x0 := hx0.symm
                    have g5 : (x0 : Int) < Z := by omega
                    have lp := hrow4.lt
                    have lx := hBX.lt
                    have rx := (hBX.cell 24).trans HX24.out
                    have yr := fun (y : After _) => (y.cell lp).trans rk
                    have yx := fun (y : After _) => (y.cell lx).trans rx
                    have HA2 := Lib.hid hA2
                    have HBA := Lib.hid hBA
                    have HBX := Lib.hid hBX
                    have HBL := Lib.hid hbl
                    have HROW := Lib.hid hrow4
                    have HX1 := Lib.hid hx1
                    clear hA hBA hBX hbl hvis hA2 hx0 hx1 hrow4 hvv lp lx rx
                    go_wp2_with fail
                    refine wp_region_after (by kernel_rfl) (by kernel_rfl) ?_
                    repeat (go_big_quiet_step (fail))
                    refine wpQuiet_nil ?_
                    rintro _ ⟨y, rfl⟩
                    have hB1 := HBA.out.later y.bel
                    have xc := (hB1.cell x0).trans HX1.out
                    have fz := hB1.free x0
                    have rk2 := yr y
                    have HB1 := Lib.hid hB1
                    have HX2 := Lib.hid (HBX.out.later y.bel)
                    have HR1 := Lib.hid (HROW.out.later y.bel)
                    have HL1 := Lib.hid (HBL.out.trans (y.bel.mono HBL.out.size))
                    clear yr yx e1 rk hB1
                    go_wp2_with fail
                    go_roundw
                    case rel => exact ⟨j + 1, by simp, by omega, St.cast ⟨_, HA2.out, HB1.out.put x0 _, HX2.out.far (p := ⟨gm, x0, none⟩) nlg _, HL1.out.setCell (p := ⟨gm, x0, none⟩) hgw _⟩ (by unfold code; simp only; omega), HR1.out.far (p := ⟨gm, x0, none⟩) npg _⟩
                    case measure => simp [intOf]; omega
                  · have hd5 : decide ((j : Int) < 1) = false := by simp; omega
                    have hS5 := (St.cast hS4 (show _ = ((((a : Int) * 16 + b) * 14 + (9 : Nat)) * 64 + 1) by omega)).pass (k := 9) HQOK.out HZ.out (by omega) ⟨by omega, by omega⟩ ⟨by omega, by omega⟩ (fun i hi hv => by have h := hv.hi; unfold manyK at h; rw [if_neg (by decide)] at h; omega)
                    have HS := Lib.hid hS5
                    have HRW := Lib.hid hrow4
                    clear hS4 hS5 hrow4 hvv
                    go_wp2_with fail
                    go_roundw
                    case rel => exact ⟨10, by simp, by omega, HS.out, HRW.out⟩
                    case measure => simp [intOf]
              · obtain ⟨vv, hvv⟩ : ∃ x, q.val a b 11 = x := ⟨_, rfl⟩
                have rk := (hrow3.cell 11).trans (show _ = some (.int .i64 vv) by rw [← hvv]; rfl)
                by_cases hneg : vv < 0
                · have d1 : decide (vv < 0) = true := by simp; exact hneg
                  have hS4 := (St.cast hS3 (show _ = ((((a : Int) * 16 + b) * 14 + (11 : Nat)) * 64 + 0) by omega)).pass (k := 11) HQOK.out HZ.out (by omega) ⟨by omega, by omega⟩ ⟨by omega, by omega⟩ (fun i _ hv => by have := hv.is; omega)
                  have HS := Lib.hid hS4
                  have HRW := Lib.hid hrow3
                  clear hS3 hS4 hrow3 hvv
                  go_wp2_with fail
                  go_roundw
                  case rel => exact ⟨12, by simp, by omega, HS.out, HRW.out⟩
                  case measure => simp [intOf]
                have d1 : decide (vv < 0) = false := by simp; omega
                cases sg
                · have hb0 : (b : Int) ≠ 0 := by have := HSG.out; simpa using this
                  have hS4 := (St.cast hS3 (show _ = ((((a : Int) * 16 + b) * 14 + (11 : Nat)) * 64 + 0) by omega)).pass (k := 11) HQOK.out HZ.out (by omega) ⟨by omega, by omega⟩ ⟨by omega, by omega⟩ (fun i _ hv => hb0 (hv.one rfl))
                  have HS := Lib.hid hS4
                  have HRW := Lib.hid hrow3
                  clear hS3 hS4 hrow3 hvv
                  go_wp2_with fail
                  go_roundw
                  case rel => exact ⟨12, by simp, by omega, HS.out, HRW.out⟩
                  case measure => simp [intOf]
                have HB0 := Lib.hid (show (b : Int) = 0 by have := HSG.out; simpa using this)
                go_wp2_with fail
                go_loopw [16] (fun i wr => ∃ j : Nat, i = .int .i64 j ∧ (j : Int) ≤ 1 ∧ St w wr w1.heap.size gm X q Z ((((a : Int) * 16 + b) * 14 + (11 : Nat)) * 64 + j) ∧ Blk wr pg 3 #[.int .i64 (q.val (a : Int) (b : Int) 0), .int .i64 (q.val (a : Int) (b : Int) 1), .int .i64 (q.val (a : Int) (b : Int) 2), .int .i64 (q.val (a : Int) (b : Int) 3), .int .i64 (q.val (a : Int) (b : Int) 4), .int .i64 (q.val (a : Int) (b : Int) 5), .int .i64 (q.val (a : Int) (b : Int) 6), .int .i64 (q.val (a : Int) (b : Int) 7), .int .i64 (q.val (a : Int) (b : Int) 8), .int .i64 (q.val (a : Int) (b : Int) 9), .int .i64 (q.val (a : Int) (b : Int) 10), .int .i64 (q.val (a : Int) (b : Int) 11), .int .i64 (q.val (a : Int) (b : Int) 12), .int .i64 (q.val (a : Int) (b : Int) 13)]) (fun i _ => 64 - (intOf i).toNat)
                case atStart => exact ⟨0, rfl, by omega, hS3.cast (by omega), hrow3⟩
                case round =>
                  clear hS3 hrow3 rk
                  obtain ⟨j, rfl, hj, hS4, hrow4⟩ := hrel
                  have rk := (hrow4.cell 11).trans (show _ = some (.int .i64 vv) by rw [← hvv]; rfl)
                  by_cases hlt5 : (j : Int) < 1
                  · obtain ⟨A, hA, hBA, hBX, hbl⟩ := hS4
                    have hvis : q.Vis 11 a b j := ⟨by omega, by rw [hvv]; omega, fun _ => HB0.out, by omega, by unfold manyK; rw [if_neg (by decide)]; omega⟩
                    obtain ⟨x0, hx0⟩ : ∃ x : Nat, (x : Int) = vv + j := ⟨(vv + j).toNat, by omega⟩
                    obtain ⟨hxZ, hx1, hA2⟩ := Had.visit 11 a b j hA HQOK.out HZ.out hvis ⟨by omega, by omega⟩ (by omega) x0 (by rw [hvv]; exact hx0)
                    have e1 : IntKind.i64.wrap (vv + j) = x0 := by rw [IntKind.wrap_i64]; omega
                    have e3 : vv + (j : Int) = x0 := hx0.symm
                    have g5 : (x0 : Int) < Z := by omega
                    have lp := hrow4.lt
                    have lx := hBX.lt
                    have rx := (hBX.cell 24).trans HX24.out
                    have yr := fun (y : After _) => (y.cell lp).trans rk
                    have yx := fun (y : After _) => (y.cell lx).trans rx
                    have HA2 := Lib.hid hA2
                    have HBA := Lib.hid hBA
                    have HBX := Lib.hid hBX
                    have HBL := Lib.hid hbl
                    have HROW := Lib.hid hrow4
                    have HX1 := Lib.hid hx1
                    clear hA hBA hBX hbl hvis hA2 hx0 hx1 hrow4 hvv lp lx rx
                    go_wp2_with fail
                    refine wp_region_after (by kernel_rfl) (by kernel_rfl) ?_
                    repeat (go_big_quiet_step (fail))
                    refine wpQuiet_nil ?_
                    rintro _ ⟨y, rfl⟩
                    have hB1 := HBA.out.later y.bel
                    have xc := (hB1.cell x0).trans HX1.out
                    have fz := hB1.free x0
                    have rk2 := yr y
                    have HB1 := Lib.hid hB1
                    have HX2 := Lib.hid (HBX.out.later y.bel)
                    have HR1 := Lib.hid (HROW.out.later y.bel)
                    have HL1 := Lib.hid (HBL.out.trans (y.bel.mono HBL.out.size))
                    clear yr yx e1 rk hB1
                    go_wp2_with fail
                    go_roundw
                    case rel => exact ⟨j + 1, by simp, by omega, St.cast ⟨_, HA2.out, HB1.out.put x0 _, HX2.out.far (p := ⟨gm, x0, none⟩) nlg _, HL1.out.setCell (p := ⟨gm, x0, none⟩) hgw _⟩ (by unfold code; simp only; omega), HR1.out.far (p := ⟨gm, x0, none⟩) npg _⟩
                    case measure => simp [intOf]; omega
                  · have hd5 : decide ((j : Int) < 1) = false := by simp; omega
                    have hS5 := (St.cast hS4 (show _ = ((((a : Int) * 16 + b) * 14 + (11 : Nat)) * 64 + 1) by omega)).pass (k := 11) HQOK.out HZ.out (by omega) ⟨by omega, by omega⟩ ⟨by omega, by omega⟩ (fun i hi hv => by have h := hv.hi; unfold manyK at h; rw [if_neg (by decide)] at h; omega)
                    have HS := Lib.hid hS5
                    have HRW := Lib.hid hrow4
                    clear hS4 hS5 hrow4 hvv
                    go_wp2_with fail
                    go_roundw
                    case rel => exact ⟨12, by simp, by omega, HS.out, HRW.out⟩
                    case measure => simp [intOf]
              · obtain ⟨vv, hvv⟩ : ∃ x, q.val a b 12 = x := ⟨_, rfl⟩
                have rk := (hrow3.cell 12).trans (show _ = some (.int .i64 vv) by rw [← hvv]; rfl)
                by_cases hneg : vv < 0
                · have d1 : decide (vv < 0) = true := by simp; exact hneg
                  have hS4 := (St.cast hS3 (show _ = ((((a : Int) * 16 + b) * 14 + (12 : Nat)) * 64 + 0) by omega)).pass (k := 12) HQOK.out HZ.out (by omega) ⟨by omega, by omega⟩ ⟨by omega, by omega⟩ (fun i _ hv => by have := hv.is; omega)
                  have HS := Lib.hid hS4
                  have HRW := Lib.hid hrow3
                  clear hS3 hS4 hrow3 hvv
                  go_wp2_with fail
                  go_roundw
                  case rel => exact ⟨13, by simp, by omega, HS.out, HRW.out⟩
                  case measure => simp [intOf]
                have d1 : decide (vv < 0) = false := by simp; omega
                cases sg
                · have hb0 : (b : Int) ≠ 0 := by have := HSG.out; simpa using this
                  have hS4 := (St.cast hS3 (show _ = ((((a : Int) * 16 + b) * 14 + (12 : Nat)) * 64 + 0) by omega)).pass (k := 12) HQOK.out HZ.out (by omega) ⟨by omega, by omega⟩ ⟨by omega, by omega⟩ (fun i _ hv => hb0 (hv.one rfl))
                  have HS := Lib.hid hS4
                  have HRW := Lib.hid hrow3
                  clear hS3 hS4 hrow3 hvv
                  go_wp2_with fail
                  go_roundw
                  case rel => exact ⟨13, by simp, by omega, HS.out, HRW.out⟩
                  case measure => simp [intOf]
                have HB0 := Lib.hid (show (b : Int) = 0 by have := HSG.out; simpa using this)
                go_wp2_with fail
                go_loopw [16] (fun i wr => ∃ j : Nat, i = .int .i64 j ∧ (j : Int) ≤ 1 ∧ St w wr w1.heap.size gm X q Z ((((a : Int) * 16 + b) * 14 + (12 : Nat)) * 64 + j) ∧ Blk wr pg 3 #[.int .i64 (q.val (a : Int) (b : Int) 0), .int .i64 (q.val (a : Int) (b : Int) 1), .int .i64 (q.val (a : Int) (b : Int) 2), .int .i64 (q.val (a : Int) (b : Int) 3), .int .i64 (q.val (a : Int) (b : Int) 4), .int .i64 (q.val (a : Int) (b : Int) 5), .int .i64 (q.val (a : Int) (b : Int) 6), .int .i64 (q.val (a : Int) (b : Int) 7), .int .i64 (q.val (a : Int) (b : Int) 8), .int .i64 (q.val (a : Int) (b : Int) 9), .int .i64 (q.val (a : Int) (b : Int) 10), .int .i64 (q.val (a : Int) (b : Int) 11), .int .i64 (q.val (a : Int) (b : Int) 12), .int .i64 (q.val (a : Int) (b : Int) 13)]) (fun i _ => 64 - (intOf i).toNat)
                case atStart => exact ⟨0, rfl, by omega, hS3.cast (by omega), hrow3⟩
                case round =>
                  clear hS3 hrow3 rk
                  obtain ⟨j, rfl, hj, hS4, hrow4⟩ := hrel
                  have rk := (hrow4.cell 12).trans (show _ = some (.int .i64 vv) by rw [← hvv]; rfl)
                  by_cases hlt5 : (j : Int) < 1
                  · obtain ⟨A, hA, hBA, hBX, hbl⟩ := hS4
                    have hvis : q.Vis 12 a b j := ⟨by omega, by rw [hvv]; omega, fun _ => HB0.out, by omega, by unfold manyK; rw [if_neg (by decide)]; omega⟩
                    obtain ⟨x0, hx0⟩ : ∃ x : Nat, (x : Int) = vv + j := ⟨(vv + j).toNat, by omega⟩
                    obtain ⟨hxZ, hx1, hA2⟩ := Had.visit 12 a b j hA HQOK.out HZ.out hvis ⟨by omega, by omega⟩ (by omega) x0 (by rw [hvv]; exact hx0)
                    have e1 : IntKind.i64.wrap (vv + j) = x0 := by rw [IntKind.wrap_i64]; omega
                    have e3 : vv + (j : Int) = x0 := hx0.symm
                    have g5 : (x0 : Int) < Z := by omega
                    have lp := hrow4.lt
                    have lx := hBX.lt
                    have rx := (hBX.cell 24).trans HX24.out
                    have yr := fun (y : After _) => (y.cell lp).trans rk
                    have yx := fun (y : After _) => (y.cell lx).trans rx
                    have HA2 := Lib.hid hA2
                    have HBA := Lib.hid hBA
                    have HBX := Lib.hid hBX
                    have HBL := Lib.hid hbl
                    have HROW := Lib.hid hrow4
                    have HX1 := Lib.hid hx1
                    clear hA hBA hBX hbl hvis hA2 hx0 hx1 hrow4 hvv lp lx rx
                    go_wp2_with fail
                    refine wp_region_after (by kernel_rfl) (by kernel_rfl) ?_
                    repeat (go_big_quiet_step (fail))
                    refine wpQuiet_nil ?_
                    rintro _ ⟨y, rfl⟩
                    have hB1 := HBA.out.later y.bel
                    have xc := (hB1.cell x0).trans HX1.out
                    have fz := hB1.free x0
                    have rk2 := yr y
                    have HB1 := Lib.hid hB1
                    have HX2 := Lib.hid (HBX.out.later y.bel)
                    have HR1 := Lib.hid (HROW.out.later y.bel)
                    have HL1 := Lib.hid (HBL.out.trans (y.bel.mono HBL.out.size))
                    clear yr yx e1 rk hB1
                    go_wp2_with fail
                    go_roundw
                    case rel => exact ⟨j + 1, by simp, by omega, St.cast ⟨_, HA2.out, HB1.out.put x0 _, HX2.out.far (p := ⟨gm, x0, none⟩) nlg _, HL1.out.setCell (p := ⟨gm, x0, none⟩) hgw _⟩ (by unfold code; simp only; omega), HR1.out.far (p := ⟨gm, x0, none⟩) npg _⟩
                    case measure => simp [intOf]; omega
                  · have hd5 : decide ((j : Int) < 1) = false := by simp; omega
                    have hS5 := (St.cast hS4 (show _ = ((((a : Int) * 16 + b) * 14 + (12 : Nat)) * 64 + 1) by omega)).pass (k := 12) HQOK.out HZ.out (by omega) ⟨by omega, by omega⟩ ⟨by omega, by omega⟩ (fun i hi hv => by have h := hv.hi; unfold manyK at h; rw [if_neg (by decide)] at h; omega)
                    have HS := Lib.hid hS5
                    have HRW := Lib.hid hrow4
                    clear hS4 hS5 hrow4 hvv
                    go_wp2_with fail
                    go_roundw
                    case rel => exact ⟨13, by simp, by omega, HS.out, HRW.out⟩
                    case measure => simp [intOf]
            · have hd3 : decide ((k : Int) < 14) = false := by simp; omega
              go_wp2_with fail
              go_roundw
              case rel => exact ⟨b + 1, by simp, by omega, hS3.cast (by omega)⟩
              case measure => simp [intOf]; omega
        · have hd2 : decide ((b : Int) < 16) = false := by simp; omega
          go_wp2_with fail
          go_roundw
          case rel => exact ⟨a + 1, by simp, by omega, hS2.cast (by omega)⟩
          case measure => simp [intOf]; omega
    · have hd2 : decide ((a : Int) < 64) = false := by simp; omega
      go_wp2_with fail
      go_loopw [17] (fun i wr => ∃ x : Nat, i = .int .i64 x ∧ x ≤ Z ∧ St w wr w1.heap.size gm X q Z ((a : Int) * 16 * 14 * 64)) (fun i _ => Z - (intOf i).toNat)
      case atStart => exact ⟨0, rfl, by omega, hS⟩
      case round =>
        clear hS
        obtain ⟨x, rfl, hx, hS⟩ := hrel
        have hS' := hS
        obtain ⟨A, hA, hBA, hBX, hbl⟩ := hS'
        have x24 := (hBX.cell 24).trans HX24.out
        by_cases hlt4 : x < Z
        · have xc := (hBA.cell x).trans (hA.done HQOK.out HZ.out (by omega) x hlt4)
          have g3 : (x : Int) < Z := by omega
          have HS := Lib.hid hS
          clear hA hBA hBX hbl hS
          go_wp2_with fail
          go_roundw
          case rel => exact ⟨x + 1, by simp, by omega, HS.out⟩
          case measure => simp [intOf]; omega
        · have hd3 : decide ((x : Int) < Z) = false := by simp; omega
          have HBL := Lib.hid hbl
          clear hA hBA hBX hbl hS
          go_wp2_with fail
          go_ret
          exact ⟨rfl, HBL.out⟩
end Go.Proofs.Ytbaeckehchpfaaa
