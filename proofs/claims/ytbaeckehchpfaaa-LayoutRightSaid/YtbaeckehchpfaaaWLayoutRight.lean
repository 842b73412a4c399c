/-
  LAYOUT: the law LayoutRight.
-/
import Derived.Test.YtbaeckehchpfaaaRows
import Derived.ProofKit
import Derived.Test.YtbaeckehchpfaaaLayS
import Derived.Test.YtbaeckehchpfaaaLayO
namespace Go.Proofs.Ytbaeckehchpfaaa
open Go.ChangeShapes Go.WideShapes Go.ChangeAt Go.RowKit

theorem ints_one' (Y : Array Value) (hY : IntCells Y 25) : Y.all (·.oneCell') = true := by
  rw [Array.all_eq_true_iff_forall_mem]
  intro v hv
  obtain ⟨j, hj, he⟩ := Array.mem_iff_getElem.1 hv
  obtain ⟨a, ha⟩ := hY.2 j (by rw [← hY.1]; exact hj)
  rw [Array.getElem?_eq_getElem hj] at ha
  injection ha with ha
  rw [← he, ha]; rfl

theorem ints_set (Y : Array Value) (hY : IntCells Y 25) (j : Nat) (v : Int) : IntCells (Y.setIfInBounds j (.int .i64 v)) 25 := by
  refine ⟨by simp [hY.1], fun i hi => ?_⟩
  by_cases hij : j = i
  · subst hij; exact ⟨v, by rw [Array.getElem?_setIfInBounds_self, if_pos (by rw [hY.1]; exact hi)]⟩
  · rw [Array.getElem?_setIfInBounds_ne hij]; exact hY.2 i hi

theorem set_keep (Y : Array Value) (j i : Nat) (v : Value) (h : i ≠ j) : (Y.setIfInBounds j v)[i]? = Y[i]? := Array.getElem?_setIfInBounds_ne (Ne.symm h)

/-- a layout of which a number behind its conf is another one -/
theorem right_turned (s n b sl t ce ma st ch : Int) (h : ConfOk s n b sl t ce ma st ch) (j : Nat) (hj : 9 ≤ j ∧ j < 25) (a x : Int) (ha : (layV s n b sl t ce ma st ch)[j]? = some (.int .i64 a)) (hx : x ≠ a) (w : World) :
    Calls Try.prog 12 #[.agg ((layV s n b sl t ce ma st ch).setIfInBounds j (.int .i64 x))] w fun e w' => e = .returned (.bool false) ∧ Below w.heap.size w w' := by
  have hc : IntCells (layV s n b sl t ce ma st ch) 25 := layC_cells ..
  have hk : ∀ i, i < 9 → ((layV s n b sl t ce ma st ch).setIfInBounds j (.int .i64 x))[i]? = (layV s n b sl t ce ma st ch)[i]? := fun i hi => set_keep _ j i _ (by omega)
  refine right_any _ _ s n b sl t ce ma st ch 0 false (ints_set _ hc j x) hc ((hk 0 (by omega)).trans rfl) ((hk 1 (by omega)).trans rfl) ((hk 2 (by omega)).trans rfl) ((hk 3 (by omega)).trans rfl) ((hk 4 (by omega)).trans rfl) ((hk 5 (by omega)).trans rfl) ((hk 6 (by omega)).trans rfl) ((hk 7 (by omega)).trans rfl) ((hk 8 (by omega)).trans rfl)
    (of_ok s n b sl t ce ma st ch h) (.inl ⟨rfl, fun w => lay_other _ _ (ints_set _ hc j x) hc j x a hj.2 (by rw [Array.getElem?_setIfInBounds_self, if_pos (by rw [hc.1]; exact hj.2)]) ha hx w⟩) w

theorem cells_up (t u : Int) (h1 : 1 ≤ t) (h : t ≤ u) : cellsP (ringsP t) ≤ cellsP (ringsP u) := by
  have hm : ringsP t ≤ ringsP u := by
    unfold ringsP
    repeat' split
    all_goals omega
  have h5 := rings_le t
  have h6 := rings_le u
  rcases (show ringsP t = 1 ∨ ringsP t = 2 ∨ ringsP t = 3 ∨ ringsP t = 4 ∨ ringsP t = 5 by omega) with e | e | e | e | e <;> rw [e] at hm ⊢ <;> rcases (show ringsP u = 1 ∨ ringsP u = 2 ∨ ringsP u = 3 ∨ ringsP u = 4 ∨ ringsP u = 5 by omega) with f | f | f | f | f <;> rw [f] at hm ⊢ <;> first | decide | omega

/-- a layout of more tasks than it was made for -/
theorem right_tasks (s n b sl t ce ma st ch : Int) (h : ConfOk s n b sl t ce ma st ch) (u : Int) (hu : t < u) (w : World) :
    Calls Try.prog 12 #[.agg ((layV s n b sl t ce ma st ch).setIfInBounds 4 (.int .i64 u))] w fun e w' => e = .returned (.bool false) ∧ Below w.heap.size w w' := by
  have hc : IntCells (layV s n b sl t ce ma st ch) 25 := layC_cells ..
  have hk : ∀ i, i ≠ 4 → ((layV s n b sl t ce ma st ch).setIfInBounds 4 (.int .i64 u))[i]? = (layV s n b sl t ce ma st ch)[i]? := fun i hi => set_keep _ 4 i _ hi
  by_cases hok : ConfOk s n b sl u ce ma st ch
  · have hc2 : IntCells (layV s n b sl u ce ma st ch) 25 := layC_cells ..
    have hup := cells_up t u h.may.ht.1 (by omega)
    have hm := Int.mul_le_mul_of_nonneg_left hup (show 0 ≤ s by have := h.may.hs; omega)
    refine right_any _ _ s n b sl u ce ma st ch 0 false (ints_set _ hc 4 u) hc2 ((hk 0 (by omega)).trans rfl) ((hk 1 (by omega)).trans rfl) ((hk 2 (by omega)).trans rfl) ((hk 3 (by omega)).trans rfl) (by rw [Array.getElem?_setIfInBounds_self, if_pos (by rw [hc.1]; omega)]) ((hk 5 (by omega)).trans rfl) ((hk 6 (by omega)).trans rfl) ((hk 7 (by omega)).trans rfl) ((hk 8 (by omega)).trans rfl)
      (of_ok s n b sl u ce ma st ch hok) (.inl ⟨rfl, fun w => lay_other _ _ (ints_set _ hc 4 u) hc2 19 (4 + 8 * s + s * cellsP (ringsP t) + 4 * t) (4 + 8 * s + s * cellsP (ringsP u) + 4 * u) (by omega) ((hk 19 (by omega)).trans rfl) rfl (by omega) w⟩) w
  · exact right_any _ _ s n b sl u ce ma st ch 1 false (ints_set _ hc 4 u) zeroL_cells ((hk 0 (by omega)).trans rfl) ((hk 1 (by omega)).trans rfl) ((hk 2 (by omega)).trans rfl) ((hk 3 (by omega)).trans rfl) (by rw [Array.getElem?_setIfInBounds_self, if_pos (by rw [hc.1]; omega)]) ((hk 5 (by omega)).trans rfl) ((hk 6 (by omega)).trans rfl) ((hk 7 (by omega)).trans rfl) ((hk 8 (by omega)).trans rfl)
      (of_no s n b sl u ce ma st ch hok) (.inr ⟨rfl, rfl⟩) w

theorem layC_zero (s n b sl t ce ma st ch : Int) : IntCells #[.int .i64 s, .int .i64 n, .int .i64 b, .int .i64 sl, .int .i64 t, .int .i64 ce, .int .i64 ma, .int .i64 st, .int .i64 ch, .int .i64 0, .int .i64 0, .int .i64 0, .int .i64 0, .int .i64 0, .int .i64 0, .int .i64 0, .int .i64 0, .int .i64 0, .int .i64 0, .int .i64 0, .int .i64 0, .int .i64 0, .int .i64 0, .int .i64 0, .int .i64 0] 25 := by
  refine ⟨rfl, fun j hj => ?_⟩
  rcases (show j = 0 ∨ j = 1 ∨ j = 2 ∨ j = 3 ∨ j = 4 ∨ j = 5 ∨ j = 6 ∨ j = 7 ∨ j = 8 ∨ j = 9 ∨ j = 10 ∨ j = 11 ∨ j = 12 ∨ j = 13 ∨ j = 14 ∨ j = 15 ∨ j = 16 ∨ j = 17 ∨ j = 18 ∨ j = 19 ∨ j = 20 ∨ j = 21 ∨ j = 22 ∨ j = 23 ∨ j = 24 by omega) with rfl | rfl | rfl | rfl | rfl | rfl | rfl | rfl | rfl | rfl | rfl | rfl | rfl | rfl | rfl | rfl | rfl | rfl | rfl | rfl | rfl | rfl | rfl | rfl | rfl
  all_goals exact ⟨_, rfl⟩

/-- a conf that may not be, and nothing behind it -/
theorem right_bare (s n b sl t ce ma st ch : Int) (h : ¬ ConfOk s n b sl t ce ma st ch) (w : World) :
    Calls Try.prog 12 #[.agg #[.int .i64 s, .int .i64 n, .int .i64 b, .int .i64 sl, .int .i64 t, .int .i64 ce, .int .i64 ma, .int .i64 st, .int .i64 ch, .int .i64 0, .int .i64 0, .int .i64 0, .int .i64 0, .int .i64 0, .int .i64 0, .int .i64 0, .int .i64 0, .int .i64 0, .int .i64 0, .int .i64 0, .int .i64 0, .int .i64 0, .int .i64 0, .int .i64 0, .int .i64 0]] w fun e w' => e = .returned (.bool false) ∧ Below w.heap.size w w' :=
  right_any _ _ s n b sl t ce ma st ch 1 false (layC_zero ..) zeroL_cells rfl rfl rfl rfl rfl rfl rfl rfl rfl (of_no s n b sl t ce ma st ch h) (.inr ⟨rfl, rfl⟩) w

set_option maxRecDepth 100000 in
set_option maxHeartbeats 20000000 in
theorem walkLayoutRight (s n b sl t ce ma st ch k y : Int) (w : World) (_hs : -9223372036854775808 ≤ s ∧ s ≤ 9223372036854775807) (_hn : -9223372036854775808 ≤ n ∧ n ≤ 9223372036854775807) (_hb : -9223372036854775808 ≤ b ∧ b ≤ 9223372036854775807) (_hsl : -9223372036854775808 ≤ sl ∧ sl ≤ 9223372036854775807) (_ht : -9223372036854775808 ≤ t ∧ t ≤ 9223372036854775807) (_hce : -9223372036854775808 ≤ ce ∧ ce ≤ 9223372036854775807) (_hma : -9223372036854775808 ≤ ma ∧ ma ≤ 9223372036854775807) (_hst : -9223372036854775808 ≤ st ∧ st ≤ 9223372036854775807) (_hch : -9223372036854775808 ≤ ch ∧ ch ≤ 9223372036854775807) (hk : 0 ≤ k ∧ k ≤ 255) (hy : -9223372036854775808 ≤ y ∧ y ≤ 9223372036854775807) :
    Calls Try.prog 4 #[.agg #[.int .i64 s, .int .i64 n, .int .i64 b, .int .i64 sl, .int .i64 t, .int .i64 ce, .int .i64 ma, .int .i64 st, .int .i64 ch], .int .u8 k, .int .i64 y] w fun e w' => e = .returned (.bool true) ∧ Below w.heap.size w w' := by
  obtain ⟨V, hV⟩ : ∃ V, V = w.alloc (Obj.cells #[.int .i64 s, .int .i64 n, .int .i64 b, .int .i64 sl, .int .i64 t, .int .i64 ce, .int .i64 ma, .int .i64 st, .int .i64 ch] 23) := ⟨_, rfl⟩
  have hbV : Below w.heap.size w V := by rw [hV]; exact (Below.refl _ w).alloc (Nat.le_refl _) _
  have KC : Blk V w.heap.size 23 #[.int .i64 s, .int .i64 n, .int .i64 b, .int .i64 sl, .int .i64 t, .int .i64 ce, .int .i64 ma, .int .i64 st, .int .i64 ch] := by rw [hV]; exact Blk.made w _ _
  have HV := Lib.hid hV
  have HBV := Lib.hid hbV
  clear hV hbV
  by_cases hok : ConfOk s n b sl t ce ma st ch
  case neg =>
    have HO := Lib.hid fun w => rof_no s n b sl t ce ma st ch hok w
    have HRB := Lib.hid fun w => right_bare s n b sl t ce ma st ch hok w
    unfold confC at HO
    obtain ⟨ZZ, hZZ⟩ : ∃ ZZ, ZZ = zeroL := ⟨_, rfl⟩
    rw [← hZZ] at HO
    have hZ25 : Hid (ZZ.size = 25) := Lib.hid (by rw [hZZ]; rfl)
    have hZOn : Hid (ZZ.all (·.oneCell') = true) := Lib.hid (by rw [hZZ]; exact ints_one' _ zeroL_cells)
    have hZi : Hid ((Try.prog.info? 26).map (·.size) = some ZZ.size) := Lib.hid (by rw [hZZ]; exact lay25)
    clear hZZ hok
    go_enter Try.func4, Try.ntmps4
    go_wp2_with fail
    rw [← HV.out]
    refine (shown_any V).mono ?_
    rintro e w0 ⟨rfl, hb0⟩
    have K0 := KC.later hb0
    have c0 : w0.cell? ⟨w.heap.size, 0, none⟩ = some (.int .i64 s) := K0.cell 0
    have c1 : w0.cell? ⟨w.heap.size, 1, none⟩ = some (.int .i64 n) := K0.cell 1
    have c2 : w0.cell? ⟨w.heap.size, 2, none⟩ = some (.int .i64 b) := K0.cell 2
    have c3 : w0.cell? ⟨w.heap.size, 3, none⟩ = some (.int .i64 sl) := K0.cell 3
    have c4 : w0.cell? ⟨w.heap.size, 4, none⟩ = some (.int .i64 t) := K0.cell 4
    have c5 : w0.cell? ⟨w.heap.size, 5, none⟩ = some (.int .i64 ce) := K0.cell 5
    have c6 : w0.cell? ⟨w.heap.size, 6, none⟩ = some (.int .i64 ma) := K0.cell 6
    have c7 : w0.cell? ⟨w.heap.size, 7, none⟩ = some (.int .i64 st) := K0.cell 7
    have c8 : w0.cell? ⟨w.heap.size, 8, none⟩ = some (.int .i64 ch) := K0.cell 8
    go_wp2_with fail
    refine (HO.out _).mono ?_
    rintro e w1 ⟨rfl, hb1⟩
    clear c0 c1 c2 c3 c4 c5 c6 c7 c8
    have K1 := K0.later hb1
    have HN := Blk.made w1 26 #[.int .i64 0, .int .i64 0, .int .i64 0, .int .i64 0, .int .i64 0, .int .i64 0, .int .i64 0, .int .i64 0, .int .i64 0, .int .i64 0, .int .i64 0, .int .i64 0, .int .i64 0, .int .i64 0, .int .i64 0, .int .i64 0, .int .i64 0, .int .i64 0, .int .i64 0, .int .i64 0, .int .i64 0, .int .i64 0, .int .i64 0, .int .i64 0, .int .i64 0]
    have hth1 : Hid ((w1.alloc (Obj.cells #[.int .i64 0, .int .i64 0, .int .i64 0, .int .i64 0, .int .i64 0, .int .i64 0, .int .i64 0, .int .i64 0, .int .i64 0, .int .i64 0, .int .i64 0, .int .i64 0, .int .i64 0, .int .i64 0, .int .i64 0, .int .i64 0, .int .i64 0, .int .i64 0, .int .i64 0, .int .i64 0, .int .i64 0, .int .i64 0, .int .i64 0, .int .i64 0, .int .i64 0] 26)).there w1.heap.size 0 ZZ.size) := Lib.hid fun j hj => by
      rw [Nat.zero_add]
      obtain ⟨u, hu⟩ := HN.has j (by rw [hZ25.out] at hj; exact hj)
      exact ⟨by rw [hu]; rfl, HN.free j⟩
    have hb01 := below_trans hb0 hb1
    obtain ⟨W1, hW1⟩ : ∃ W, W = (w1.alloc (Obj.cells #[.int .i64 0, .int .i64 0, .int .i64 0, .int .i64 0, .int .i64 0, .int .i64 0, .int .i64 0, .int .i64 0, .int .i64 0, .int .i64 0, .int .i64 0, .int .i64 0, .int .i64 0, .int .i64 0, .int .i64 0, .int .i64 0, .int .i64 0, .int .i64 0, .int .i64 0, .int .i64 0, .int .i64 0, .int .i64 0, .int .i64 0, .int .i64 0, .int .i64 0] 26)).setCells w1.heap.size 0 ZZ.toList := ⟨_, rfl⟩
    have hbW : Below V.heap.size V W1 := by rw [hW1]; exact (hb01.alloc hb01.size _).trans (Lib.below_setCells_w hb01.size _ _ _)
    have KW : Blk W1 w.heap.size 23 #[.int .i64 s, .int .i64 n, .int .i64 b, .int .i64 sl, .int .i64 t, .int .i64 ce, .int .i64 ma, .int .i64 st, .int .i64 ch] := by
      rw [hW1]
      have := K1.lt
      exact Blk.farAll (w := w) (by omega) _ _ (K1.alloc _)
    have HW1 := Lib.hid hW1
    have HBW := Lib.hid hbW
    clear HN hb0 hb1 hb01 hbW hW1 K0 K1
    have c0 : W1.cell? ⟨w.heap.size, 0, none⟩ = some (.int .i64 s) := KW.cell 0
    have c1 : W1.cell? ⟨w.heap.size, 1, none⟩ = some (.int .i64 n) := KW.cell 1
    have c2 : W1.cell? ⟨w.heap.size, 2, none⟩ = some (.int .i64 b) := KW.cell 2
    have c3 : W1.cell? ⟨w.heap.size, 3, none⟩ = some (.int .i64 sl) := KW.cell 3
    have c4 : W1.cell? ⟨w.heap.size, 4, none⟩ = some (.int .i64 t) := KW.cell 4
    have c5 : W1.cell? ⟨w.heap.size, 5, none⟩ = some (.int .i64 ce) := KW.cell 5
    have c6 : W1.cell? ⟨w.heap.size, 6, none⟩ = some (.int .i64 ma) := KW.cell 6
    have c7 : W1.cell? ⟨w.heap.size, 7, none⟩ = some (.int .i64 st) := KW.cell 7
    have c8 : W1.cell? ⟨w.heap.size, 8, none⟩ = some (.int .i64 ch) := KW.cell 8
    go_wp2_with ((with_reducible (show wpList _ _ _ ({ dst := none, op := Op.store 26 _ _, type := _, pos := _, after := _, guard := none } :: _) _ _)); refine wpList_store_mid rfl 26 _ _ rfl w1.heap.size 0 ZZ rfl rfl hth1.out hZi.out hZOn.out ?_; rw [← HW1.out])
    refine (HRB.out _).mono ?_
    rintro e w2 ⟨rfl, hb2⟩
    go_wp2_with fail
    go_ret
    exact ⟨rfl, HBV.out.trans ((below_trans HBW.out hb2).mono HBV.out.size)⟩
  have HO := Lib.hid fun w => rof_ok s n b sl t ce ma st ch hok w
  have HRT := Lib.hid fun w => right_lay s n b sl t ce ma st ch hok w
  have HTU := Lib.hid fun j a x h1 h2 h3 w => right_turned s n b sl t ce ma st ch hok j h1 a x h2 h3 w
  have HTA := Lib.hid fun u h1 w => right_tasks s n b sl t ce ma st ch hok u h1 w
  obtain ⟨X, hX⟩ : ∃ X, X = layV s n b sl t ce ma st ch := ⟨_, rfl⟩
  rw [← hX] at HO HRT HTU HTA
  have hXc : IntCells X 25 := by rw [hX]; exact layC_cells ..
  have hX4 : X[4]? = some (.int .i64 t) := by rw [hX]; rfl
  have htt := hok.may.ht
  obtain ⟨a9, ha9⟩ := hXc.2 9 (by omega)
  obtain ⟨a17, ha17⟩ := hXc.2 17 (by omega)
  obtain ⟨a20, ha20⟩ := hXc.2 20 (by omega)
  obtain ⟨a23, ha23⟩ := hXc.2 23 (by omega)
  obtain ⟨a24, ha24⟩ := hXc.2 24 (by omega)
  have hx25 : Hid (X.size = 25) := Lib.hid hXc.1
  have hxOn : Hid (X.all (·.oneCell') = true) := Lib.hid (ints_one' _ hXc)
  have hxi : Hid ((Try.prog.info? 26).map (·.size) = some X.size) := Lib.hid (by rw [hXc.1]; exact lay25)
  have hxj : Hid ((Try.prog.info? 26).map (·.size) = some X.toList.length) := Lib.hid (by rw [Array.length_toList, hXc.1]; exact lay25)
  have HX4 := Lib.hid hX4
  have HA9 := Lib.hid ha9
  have HA17 := Lib.hid ha17
  have HA20 := Lib.hid ha20
  have HA23 := Lib.hid ha23
  have HA24 := Lib.hid ha24
  have HXC := Lib.hid hXc
  clear hX hok hXc hX4 ha9 ha17 ha20 ha23 ha24
  obtain ⟨r, hr⟩ : ∃ r, Int.tmod k 6 = r := ⟨_, rfl⟩
  have hr6 : r = 0 ∨ r = 1 ∨ r = 2 ∨ r = 3 ∨ r = 4 ∨ r = 5 := by rw [Int.tmod_eq_emod_of_nonneg hk.1] at hr; omega
  have hkr : k % 6 = r := by rw [Int.tmod_eq_emod_of_nonneg hk.1] at hr; exact hr
  by_cases hy0 : y = 0
  · subst hy0
    clear hr6 hr hkr
    go_enter Try.func4, Try.ntmps4
    go_wp2_with fail
    rw [← HV.out]
    refine (shown_any V).mono ?_
    rintro e w0 ⟨rfl, hb0⟩
    have K0 := KC.later hb0
    have c0 : w0.cell? ⟨w.heap.size, 0, none⟩ = some (.int .i64 s) := K0.cell 0
    have c1 : w0.cell? ⟨w.heap.size, 1, none⟩ = some (.int .i64 n) := K0.cell 1
    have c2 : w0.cell? ⟨w.heap.size, 2, none⟩ = some (.int .i64 b) := K0.cell 2
    have c3 : w0.cell? ⟨w.heap.size, 3, none⟩ = some (.int .i64 sl) := K0.cell 3
    have c4 : w0.cell? ⟨w.heap.size, 4, none⟩ = some (.int .i64 t) := K0.cell 4
    have c5 : w0.cell? ⟨w.heap.size, 5, none⟩ = some (.int .i64 ce) := K0.cell 5
    have c6 : w0.cell? ⟨w.heap.size, 6, none⟩ = some (.int .i64 ma) := K0.cell 6
    have c7 : w0.cell? ⟨w.heap.size, 7, none⟩ = some (.int .i64 st) := K0.cell 7
    have c8 : w0.cell? ⟨w.heap.size, 8, none⟩ = some (.int .i64 ch) := K0.cell 8
    go_wp2_with fail
    refine (HO.out _).mono ?_
    rintro e w1 ⟨rfl, hb1⟩
    have HN := Blk.made w1 26 #[.int .i64 0, .int .i64 0, .int .i64 0, .int .i64 0, .int .i64 0, .int .i64 0, .int .i64 0, .int .i64 0, .int .i64 0, .int .i64 0, .int .i64 0, .int .i64 0, .int .i64 0, .int .i64 0, .int .i64 0, .int .i64 0, .int .i64 0, .int .i64 0, .int .i64 0, .int .i64 0, .int .i64 0, .int .i64 0, .int .i64 0, .int .i64 0, .int .i64 0]
    have hth1 : Hid ((w1.alloc (Obj.cells #[.int .i64 0, .int .i64 0, .int .i64 0, .int .i64 0, .int .i64 0, .int .i64 0, .int .i64 0, .int .i64 0, .int .i64 0, .int .i64 0, .int .i64 0, .int .i64 0, .int .i64 0, .int .i64 0, .int .i64 0, .int .i64 0, .int .i64 0, .int .i64 0, .int .i64 0, .int .i64 0, .int .i64 0, .int .i64 0, .int .i64 0, .int .i64 0, .int .i64 0] 26)).there w1.heap.size 0 X.size) := Lib.hid fun j hj => by
      rw [Nat.zero_add]
      obtain ⟨u, hu⟩ := HN.has j (by rw [hx25.out] at hj; exact hj)
      exact ⟨by rw [hu]; rfl, HN.free j⟩
    have hb01 := below_trans hb0 hb1
    have hbW : Below V.heap.size V ((w1.alloc (Obj.cells #[.int .i64 0, .int .i64 0, .int .i64 0, .int .i64 0, .int .i64 0, .int .i64 0, .int .i64 0, .int .i64 0, .int .i64 0, .int .i64 0, .int .i64 0, .int .i64 0, .int .i64 0, .int .i64 0, .int .i64 0, .int .i64 0, .int .i64 0, .int .i64 0, .int .i64 0, .int .i64 0, .int .i64 0, .int .i64 0, .int .i64 0, .int .i64 0, .int .i64 0] 26)).setCells w1.heap.size 0 X.toList) := (hb01.alloc hb01.size _).trans (Lib.below_setCells_w hb01.size _ _ _)
    have HBW := Lib.hid hbW
    clear HN hb0 hb1 hb01 hbW c0 c1 c2 c3 c4 c5 c6 c7 c8
    go_wp2_with ((with_reducible (show wpList _ _ _ ({ dst := none, op := Op.store 26 _ _, type := _, pos := _, after := _, guard := none } :: _) _ _)); refine wpList_store_mid rfl 26 _ _ rfl w1.heap.size 0 X rfl rfl hth1.out hxi.out hxOn.out ?_)
    go_ret
    exact ⟨rfl, HBV.out.trans (HBW.out.mono HBV.out.size)⟩
  have hyz : (y == 0) = false := by simpa using hy0
  obtain ⟨u, hu⟩ : ∃ u, Int.tmod y 2 = u := ⟨_, rfl⟩
  have hu2 : -1 ≤ u ∧ u ≤ 1 := by
    have h1 := Int.tmod_lt_of_pos y (show (0 : Int) < 2 by omega)
    have h2 := Int.lt_tmod_of_pos y (show (0 : Int) < 2 by omega)
    omega
  have HY0 := Lib.hid hy0
  clear hy0
  rcases hr6 with rfl | rfl | rfl | rfl | rfl | rfl
  · obtain ⟨Y, hYe⟩ : ∃ Y, Y = X.setIfInBounds 17 (.int .i64 (wrap64 (a17 + y))) := ⟨_, rfl⟩
    have hYc : IntCells Y 25 := by rw [hYe]; exact ints_set _ HXC.out 17 _
    have HRF : Hid (∀ w, Calls Try.prog 12 #[.agg Y] w fun e w' => e = .returned (.bool false) ∧ Below w.heap.size w w') := Lib.hid (by rw [hYe]; exact HTU.out 17 a17 (wrap64 (a17 + y)) (by omega) HA17.out (by have := HY0.out; unfold wrap64; omega))
    have hyj : Hid ((Try.prog.info? 26).map (·.size) = some Y.toList.length) := Lib.hid (by rw [Array.length_toList, hYc.1]; exact lay25)
    have HYE := Lib.hid hYe
    clear hYe hYc
    go_enter Try.func4, Try.ntmps4
    go_wp2_with fail
    rw [← HV.out]
    refine (shown_any V).mono ?_
    rintro e w0 ⟨rfl, hb0⟩
    have K0 := KC.later hb0
    have c0 : w0.cell? ⟨w.heap.size, 0, none⟩ = some (.int .i64 s) := K0.cell 0
    have c1 : w0.cell? ⟨w.heap.size, 1, none⟩ = some (.int .i64 n) := K0.cell 1
    have c2 : w0.cell? ⟨w.heap.size, 2, none⟩ = some (.int .i64 b) := K0.cell 2
    have c3 : w0.cell? ⟨w.heap.size, 3, none⟩ = some (.int .i64 sl) := K0.cell 3
    have c4 : w0.cell? ⟨w.heap.size, 4, none⟩ = some (.int .i64 t) := K0.cell 4
    have c5 : w0.cell? ⟨w.heap.size, 5, none⟩ = some (.int .i64 ce) := K0.cell 5
    have c6 : w0.cell? ⟨w.heap.size, 6, none⟩ = some (.int .i64 ma) := K0.cell 6
    have c7 : w0.cell? ⟨w.heap.size, 7, none⟩ = some (.int .i64 st) := K0.cell 7
    have c8 : w0.cell? ⟨w.heap.size, 8, none⟩ = some (.int .i64 ch) := K0.cell 8
    go_wp2_with fail
    refine (HO.out _).mono ?_
    rintro e w1 ⟨rfl, hb1⟩
    have HN := Blk.made w1 26 #[.int .i64 0, .int .i64 0, .int .i64 0, .int .i64 0, .int .i64 0, .int .i64 0, .int .i64 0, .int .i64 0, .int .i64 0, .int .i64 0, .int .i64 0, .int .i64 0, .int .i64 0, .int .i64 0, .int .i64 0, .int .i64 0, .int .i64 0, .int .i64 0, .int .i64 0, .int .i64 0, .int .i64 0, .int .i64 0, .int .i64 0, .int .i64 0, .int .i64 0]
    have hth1 : Hid ((w1.alloc (Obj.cells #[.int .i64 0, .int .i64 0, .int .i64 0, .int .i64 0, .int .i64 0, .int .i64 0, .int .i64 0, .int .i64 0, .int .i64 0, .int .i64 0, .int .i64 0, .int .i64 0, .int .i64 0, .int .i64 0, .int .i64 0, .int .i64 0, .int .i64 0, .int .i64 0, .int .i64 0, .int .i64 0, .int .i64 0, .int .i64 0, .int .i64 0, .int .i64 0, .int .i64 0] 26)).there w1.heap.size 0 X.size) := Lib.hid fun j hj => by
      rw [Nat.zero_add]
      obtain ⟨u, hu⟩ := HN.has j (by rw [hx25.out] at hj; exact hj)
      exact ⟨by rw [hu]; rfl, HN.free j⟩
    have hb01 := below_trans hb0 hb1
    obtain ⟨W1, hW1⟩ : ∃ W, W = (w1.alloc (Obj.cells #[.int .i64 0, .int .i64 0, .int .i64 0, .int .i64 0, .int .i64 0, .int .i64 0, .int .i64 0, .int .i64 0, .int .i64 0, .int .i64 0, .int .i64 0, .int .i64 0, .int .i64 0, .int .i64 0, .int .i64 0, .int .i64 0, .int .i64 0, .int .i64 0, .int .i64 0, .int .i64 0, .int .i64 0, .int .i64 0, .int .i64 0, .int .i64 0, .int .i64 0] 26)).setCells w1.heap.size 0 X.toList := ⟨_, rfl⟩
    have KX1 : Blk W1 w1.heap.size 26 X := by rw [hW1]; exact HN.put_whole X.toList (by rw [Array.length_toList, hx25.out]; rfl)
    have hbW1 : Below V.heap.size V W1 := by rw [hW1]; exact (hb01.alloc hb01.size _).trans (Lib.below_setCells_w hb01.size _ _ _)
    have HW1 := Lib.hid hW1
    have hra1 : Hid (World.rangeAt W1 w1.heap.size 0 X.toList) := Lib.hid fun j v hv => by rw [Nat.zero_add, KX1.cell]; simpa using hv
    clear hW1 HN hb0 hb1 hb01 c0 c1 c2 c3 c4 c5 c6 c7 c8 K0
    have HN2 := Blk.made W1 26 #[.int .i64 0, .int .i64 0, .int .i64 0, .int .i64 0, .int .i64 0, .int .i64 0, .int .i64 0, .int .i64 0, .int .i64 0, .int .i64 0, .int .i64 0, .int .i64 0, .int .i64 0, .int .i64 0, .int .i64 0, .int .i64 0, .int .i64 0, .int .i64 0, .int .i64 0, .int .i64 0, .int .i64 0, .int .i64 0, .int .i64 0, .int .i64 0, .int .i64 0]
    have lX := KX1.lt
    have nX : w1.heap.size ≠ W1.heap.size := by omega
    have hth2 : Hid ((W1.alloc (Obj.cells #[.int .i64 0, .int .i64 0, .int .i64 0, .int .i64 0, .int .i64 0, .int .i64 0, .int .i64 0, .int .i64 0, .int .i64 0, .int .i64 0, .int .i64 0, .int .i64 0, .int .i64 0, .int .i64 0, .int .i64 0, .int .i64 0, .int .i64 0, .int .i64 0, .int .i64 0, .int .i64 0, .int .i64 0, .int .i64 0, .int .i64 0, .int .i64 0, .int .i64 0] 26)).there W1.heap.size 0 X.size) := Lib.hid fun j hj => by
      rw [Nat.zero_add]
      obtain ⟨u, hu⟩ := HN2.has j (by rw [hx25.out] at hj; exact hj)
      exact ⟨by rw [hu]; rfl, HN2.free j⟩
    obtain ⟨W2, hW2⟩ : ∃ W, W = (W1.alloc (Obj.cells #[.int .i64 0, .int .i64 0, .int .i64 0, .int .i64 0, .int .i64 0, .int .i64 0, .int .i64 0, .int .i64 0, .int .i64 0, .int .i64 0, .int .i64 0, .int .i64 0, .int .i64 0, .int .i64 0, .int .i64 0, .int .i64 0, .int .i64 0, .int .i64 0, .int .i64 0, .int .i64 0, .int .i64 0, .int .i64 0, .int .i64 0, .int .i64 0, .int .i64 0] 26)).setCells W1.heap.size 0 X.toList := ⟨_, rfl⟩
    have KM2 : Blk W2 W1.heap.size 26 X := by rw [hW2]; exact HN2.put_whole X.toList (by rw [Array.length_toList, hx25.out]; rfl)
    have KX2 : Blk W2 w1.heap.size 26 X := by rw [hW2]; exact Blk.farAll (w := w) nX _ _ (KX1.alloc _)
    have hbW2 : Below V.heap.size V W2 := by rw [hW2]; exact (hbW1.alloc hbW1.size _).trans (Lib.below_setCells_w hbW1.size _ _ _)
    have HW2 := Lib.hid hW2
    clear hW2 HN2
    obtain ⟨W3, hW3⟩ : ∃ W, W = W2.setCell ⟨W1.heap.size, 17, none⟩ (.int .i64 (wrap64 (a17 + y))) := ⟨_, rfl⟩
    have KM3 : Blk W3 W1.heap.size 26 Y := by rw [hW3, HYE.out]; exact KM2.put 17 _
    have KX3 : Blk W3 w1.heap.size 26 X := by rw [hW3]; exact KX2.far nX _
    have hbW3 : Below V.heap.size V W3 := by rw [hW3]; exact hbW2.setCell hbW1.size _
    have HW3 := Lib.hid hW3
    have m0 : W2.cell? ⟨W1.heap.size, 17, none⟩ = some (.int .i64 a17) := (KM2.cell 17).trans HA17.out
    have mf : W2.frozen? ⟨W1.heap.size, 17, none⟩ = false := KM2.free 17
    have hraX : Hid (World.rangeAt W3 w1.heap.size 0 X.toList) := Lib.hid fun j v hv => by rw [Nat.zero_add, KX3.cell]; simpa using hv
    have hraM : Hid (∀ wx, Below W3.heap.size W3 wx → World.rangeAt wx W1.heap.size 0 Y.toList) := Lib.hid fun wx hx j v hv => by rw [Nat.zero_add, (KM3.later hx).cell]; simpa using hv
    have HB3 := Lib.hid hbW3
    clear hW3 KM2 KX2 hbW2 KX1 hbW1 KM3 KX3 hbW3
    go_wp2_with (first
      | ((with_reducible (show wpList _ _ _ ({ dst := none, op := Op.store 26 (.tmp 8) _, type := _, pos := _, after := _, guard := none } :: _) _ _)); refine wpList_store_mid rfl 26 _ _ rfl w1.heap.size 0 X rfl rfl hth1.out hxi.out hxOn.out ?_; rw [← HW1.out])
      | ((with_reducible (show wpList _ _ _ ({ dst := none, op := Op.store 26 (.tmp 10) _, type := _, pos := _, after := _, guard := none } :: _) _ _)); refine wpList_store_mid rfl 26 _ _ rfl W1.heap.size 0 X rfl rfl hth2.out hxi.out hxOn.out ?_; rw [← HW2.out])
      | (with_reducible (show wpList _ _ _ ({ dst := some 34, op := Op.load 26 _, type := _, pos := _, after := _, guard := none } :: _) _ _); refine wpList_load_mid rfl 26 _ rfl w1.heap.size 0 rfl X.toList _ hra1.out layFields rfl hxj.out ?_)
      | (with_reducible (show wpList _ _ _ ({ dst := some 86, op := Op.load 26 _, type := _, pos := _, after := _, guard := some _ } :: _) _ _); rw [← HW3.out]; refine wpList_load_mid_g rfl 26 _ rfl w1.heap.size 0 rfl X.toList _ hraX.out layFields rfl hxj.out ?_))
    refine (HRT.out _).mono ?_
    rintro e w4 ⟨rfl, hb4⟩
    go_wp2_with (with_reducible (show wpList _ _ _ ({ dst := some 90, op := Op.load 26 _, type := _, pos := _, after := _, guard := some _ } :: _) _ _); refine wpList_load_mid_g rfl 26 _ rfl W1.heap.size 0 rfl Y.toList _ (hraM.out _ hb4) layFields rfl hyj.out ?_)
    refine (HRF.out _).mono ?_
    rintro e w5 ⟨rfl, hb5⟩
    go_wp2_with fail
    go_ret
    exact ⟨rfl, HBV.out.trans ((below_trans HB3.out (below_trans hb4 hb5)).mono HBV.out.size)⟩
  · obtain ⟨Y, hYe⟩ : ∃ Y, Y = X.setIfInBounds 24 (.int .i64 (wrap64 (a24 + y))) := ⟨_, rfl⟩
    have hYc : IntCells Y 25 := by rw [hYe]; exact ints_set _ HXC.out 24 _
    have HRF : Hid (∀ w, Calls Try.prog 12 #[.agg Y] w fun e w' => e = .returned (.bool false) ∧ Below w.heap.size w w') := Lib.hid (by rw [hYe]; exact HTU.out 24 a24 (wrap64 (a24 + y)) (by omega) HA24.out (by have := HY0.out; unfold wrap64; omega))
    have hyj : Hid ((Try.prog.info? 26).map (·.size) = some Y.toList.length) := Lib.hid (by rw [Array.length_toList, hYc.1]; exact lay25)
    have HYE := Lib.hid hYe
    clear hYe hYc
    go_enter Try.func4, Try.ntmps4
    go_wp2_with fail
    rw [← HV.out]
    refine (shown_any V).mono ?_
    rintro e w0 ⟨rfl, hb0⟩
    have K0 := KC.later hb0
    have c0 : w0.cell? ⟨w.heap.size, 0, none⟩ = some (.int .i64 s) := K0.cell 0
    have c1 : w0.cell? ⟨w.heap.size, 1, none⟩ = some (.int .i64 n) := K0.cell 1
    have c2 : w0.cell? ⟨w.heap.size, 2, none⟩ = some (.int .i64 b) := K0.cell 2
    have c3 : w0.cell? ⟨w.heap.size, 3, none⟩ = some (.int .i64 sl) := K0.cell 3
    have c4 : w0.cell? ⟨w.heap.size, 4, none⟩ = some (.int .i64 t) := K0.cell 4
    have c5 : w0.cell? ⟨w.heap.size, 5, none⟩ = some (.int .i64 ce) := K0.cell 5
    have c6 : w0.cell? ⟨w.heap.size, 6, none⟩ = some (.int .i64 ma) := K0.cell 6
    have c7 : w0.cell? ⟨w.heap.size, 7, none⟩ = some (.int .i64 st) := K0.cell 7
    have c8 : w0.cell? ⟨w.heap.size, 8, none⟩ = some (.int .i64 ch) := K0.cell 8
    go_wp2_with fail
    refine (HO.out _).mono ?_
    rintro e w1 ⟨rfl, hb1⟩
    have HN := Blk.made w1 26 #[.int .i64 0, .int .i64 0, .int .i64 0, .int .i64 0, .int .i64 0, .int .i64 0, .int .i64 0, .int .i64 0, .int .i64 0, .int .i64 0, .int .i64 0, .int .i64 0, .int .i64 0, .int .i64 0, .int .i64 0, .int .i64 0, .int .i64 0, .int .i64 0, .int .i64 0, .int .i64 0, .int .i64 0, .int .i64 0, .int .i64 0, .int .i64 0, .int .i64 0]
    have hth1 : Hid ((w1.alloc (Obj.cells #[.int .i64 0, .int .i64 0, .int .i64 0, .int .i64 0, .int .i64 0, .int .i64 0, .int .i64 0, .int .i64 0, .int .i64 0, .int .i64 0, .int .i64 0, .int .i64 0, .int .i64 0, .int .i64 0, .int .i64 0, .int .i64 0, .int .i64 0, .int .i64 0, .int .i64 0, .int .i64 0, .int .i64 0, .int .i64 0, .int .i64 0, .int .i64 0, .int .i64 0] 26)).there w1.heap.size 0 X.size) := Lib.hid fun j hj => by
      rw [Nat.zero_add]
      obtain ⟨u, hu⟩ := HN.has j (by rw [hx25.out] at hj; exact hj)
      exact ⟨by rw [hu]; rfl, HN.free j⟩
    have hb01 := below_trans hb0 hb1
    obtain ⟨W1, hW1⟩ : ∃ W, W = (w1.alloc (Obj.cells #[.int .i64 0, .int .i64 0, .int .i64 0, .int .i64 0, .int .i64 0, .int .i64 0, .int .i64 0, .int .i64 0, .int .i64 0, .int .i64 0, .int .i64 0, .int .i64 0, .int .i64 0, .int .i64 0, .int .i64 0, .int .i64 0, .int .i64 0, .int .i64 0, .int .i64 0, .int .i64 0, .int .i64 0, .int .i64 0, .int .i64 0, .int .i64 0, .int .i64 0] 26)).setCells w1.heap.size 0 X.toList := ⟨_, rfl⟩
    have KX1 : Blk W1 w1.heap.size 26 X := by rw [hW1]; exact HN.put_whole X.toList (by rw [Array.length_toList, hx25.out]; rfl)
    have hbW1 : Below V.heap.size V W1 := by rw [hW1]; exact (hb01.alloc hb01.size _).trans (Lib.below_setCells_w hb01.size _ _ _)
    have HW1 := Lib.hid hW1
    have hra1 : Hid (World.rangeAt W1 w1.heap.size 0 X.toList) := Lib.hid fun j v hv => by rw [Nat.zero_add, KX1.cell]; simpa using hv
    clear hW1 HN hb0 hb1 hb01 c0 c1 c2 c3 c4 c5 c6 c7 c8 K0
    have HN2 := Blk.made W1 26 #[.int .i64 0, .int .i64 0, .int .i64 0, .int .i64 0, .int .i64 0, .int .i64 0, .int .i64 0, .int .i64 0, .int .i64 0, .int .i64 0, .int .i64 0, .int .i64 0, .int .i64 0, .int .i64 0, .int .i64 0, .int .i64 0, .int .i64 0, .int .i64 0, .int .i64 0, .int .i64 0, .int .i64 0, .int .i64 0, .int .i64 0, .int .i64 0, .int .i64 0]
    have lX := KX1.lt
    have nX : w1.heap.size ≠ W1.heap.size := by omega
    have hth2 : Hid ((W1.alloc (Obj.cells #[.int .i64 0, .int .i64 0, .int .i64 0, .int .i64 0, .int .i64 0, .int .i64 0, .int .i64 0, .int .i64 0, .int .i64 0, .int .i64 0, .int .i64 0, .int .i64 0, .int .i64 0, .int .i64 0, .int .i64 0, .int .i64 0, .int .i64 0, .int .i64 0, .int .i64 0, .int .i64 0, .int .i64 0, .int .i64 0, .int .i64 0, .int .i64 0, .int .i64 0] 26)).there W1.heap.size 0 X.size) := Lib.hid fun j hj => by
      rw [Nat.zero_add]
      obtain ⟨u, hu⟩ := HN2.has j (by rw [hx25.out] at hj; exact hj)
      exact ⟨by rw [hu]; rfl, HN2.free j⟩
    obtain ⟨W2, hW2⟩ : ∃ W, W = (W1.alloc (Obj.cells #[.int .i64 0, .int .i64 0, .int .i64 0, .int .i64 0, .int .i64 0, .int .i64 0, .int .i64 0, .int .i64 0, .int .i64 0, .int .i64 0, .int .i64 0, .int .i64 0, .int .i64 0, .int .i64 0, .int .i64 0, .int .i64 0, .int .i64 0, .int .i64 0, .int .i64 0, .int .i64 0, .int .i64 0, .int .i64 0, .int .i64 0, .int .i64 0, .int .i64 0] 26)).setCells W1.heap.size 0 X.toList := ⟨_, rfl⟩
    have KM2 : Blk W2 W1.heap.size 26 X := by rw [hW2]; exact HN2.put_whole X.toList (by rw [Array.length_toList, hx25.out]; rfl)
    have KX2 : Blk W2 w1.heap.size 26 X := by rw [hW2]; exact Blk.farAll (w := w) nX _ _ (KX1.alloc _)
    have hbW2 : Below V.heap.size V W2 := by rw [hW2]; exact (hbW1.alloc hbW1.size _).trans (Lib.below_setCells_w hbW1.size _ _ _)
    have HW2 := Lib.hid hW2
    clear hW2 HN2
    obtain ⟨W3, hW3⟩ : ∃ W, W = W2.setCell ⟨W1.heap.size, 24, none⟩ (.int .i64 (wrap64 (a24 + y))) := ⟨_, rfl⟩
    have KM3 : Blk W3 W1.heap.size 26 Y := by rw [hW3, HYE.out]; exact KM2.put 24 _
    have KX3 : Blk W3 w1.heap.size 26 X := by rw [hW3]; exact KX2.far nX _
    have hbW3 : Below V.heap.size V W3 := by rw [hW3]; exact hbW2.setCell hbW1.size _
    have HW3 := Lib.hid hW3
    have m0 : W2.cell? ⟨W1.heap.size, 24, none⟩ = some (.int .i64 a24) := (KM2.cell 24).trans HA24.out
    have mf : W2.frozen? ⟨W1.heap.size, 24, none⟩ = false := KM2.free 24
    have hraX : Hid (World.rangeAt W3 w1.heap.size 0 X.toList) := Lib.hid fun j v hv => by rw [Nat.zero_add, KX3.cell]; simpa using hv
    have hraM : Hid (∀ wx, Below W3.heap.size W3 wx → World.rangeAt wx W1.heap.size 0 Y.toList) := Lib.hid fun wx hx j v hv => by rw [Nat.zero_add, (KM3.later hx).cell]; simpa using hv
    have HB3 := Lib.hid hbW3
    clear hW3 KM2 KX2 hbW2 KX1 hbW1 KM3 KX3 hbW3
    go_wp2_with (first
      | ((with_reducible (show wpList _ _ _ ({ dst := none, op := Op.store 26 (.tmp 8) _, type := _, pos := _, after := _, guard := none } :: _) _ _)); refine wpList_store_mid rfl 26 _ _ rfl w1.heap.size 0 X rfl rfl hth1.out hxi.out hxOn.out ?_; rw [← HW1.out])
      | ((with_reducible (show wpList _ _ _ ({ dst := none, op := Op.store 26 (.tmp 10) _, type := _, pos := _, after := _, guard := none } :: _) _ _)); refine wpList_store_mid rfl 26 _ _ rfl W1.heap.size 0 X rfl rfl hth2.out hxi.out hxOn.out ?_; rw [← HW2.out])
      | (with_reducible (show wpList _ _ _ ({ dst := some 34, op := Op.load 26 _, type := _, pos := _, after := _, guard := none } :: _) _ _); refine wpList_load_mid rfl 26 _ rfl w1.heap.size 0 rfl X.toList _ hra1.out layFields rfl hxj.out ?_)
      | (with_reducible (show wpList _ _ _ ({ dst := some 86, op := Op.load 26 _, type := _, pos := _, after := _, guard := some _ } :: _) _ _); rw [← HW3.out]; refine wpList_load_mid_g rfl 26 _ rfl w1.heap.size 0 rfl X.toList _ hraX.out layFields rfl hxj.out ?_))
    refine (HRT.out _).mono ?_
    rintro e w4 ⟨rfl, hb4⟩
    go_wp2_with (with_reducible (show wpList _ _ _ ({ dst := some 90, op := Op.load 26 _, type := _, pos := _, after := _, guard := some _ } :: _) _ _); refine wpList_load_mid_g rfl 26 _ rfl W1.heap.size 0 rfl Y.toList _ (hraM.out _ hb4) layFields rfl hyj.out ?_)
    refine (HRF.out _).mono ?_
    rintro e w5 ⟨rfl, hb5⟩
    go_wp2_with fail
    go_ret
    exact ⟨rfl, HBV.out.trans ((below_trans HB3.out (below_trans hb4 hb5)).mono HBV.out.size)⟩
  · obtain ⟨Y, hYe⟩ : ∃ Y, Y = X.setIfInBounds 9 (.int .i64 (wrap64 (a9 + y))) := ⟨_, rfl⟩
    have hYc : IntCells Y 25 := by rw [hYe]; exact ints_set _ HXC.out 9 _
    have HRF : Hid (∀ w, Calls Try.prog 12 #[.agg Y] w fun e w' => e = .returned (.bool false) ∧ Below w.heap.size w w') := Lib.hid (by rw [hYe]; exact HTU.out 9 a9 (wrap64 (a9 + y)) (by omega) HA9.out (by have := HY0.out; unfold wrap64; omega))
    have hyj : Hid ((Try.prog.info? 26).map (·.size) = some Y.toList.length) := Lib.hid (by rw [Array.length_toList, hYc.1]; exact lay25)
    have HYE := Lib.hid hYe
    clear hYe hYc
    go_enter Try.func4, Try.ntmps4
    go_wp2_with fail
    rw [← HV.out]
    refine (shown_any V).mono ?_
    rintro e w0 ⟨rfl, hb0⟩
    have K0 := KC.later hb0
    have c0 : w0.cell? ⟨w.heap.size, 0, none⟩ = some (.int .i64 s) := K0.cell 0
    have c1 : w0.cell? ⟨w.heap.size, 1, none⟩ = some (.int .i64 n) := K0.cell 1
    have c2 : w0.cell? ⟨w.heap.size, 2, none⟩ = some (.int .i64 b) := K0.cell 2
    have c3 : w0.cell? ⟨w.heap.size, 3, none⟩ = some (.int .i64 sl) := K0.cell 3
    have c4 : w0.cell? ⟨w.heap.size, 4, none⟩ = some (.int .i64 t) := K0.cell 4
    have c5 : w0.cell? ⟨w.heap.size, 5, none⟩ = some (.int .i64 ce) := K0.cell 5
    have c6 : w0.cell? ⟨w.heap.size, 6, none⟩ = some (.int .i64 ma) := K0.cell 6
    have c7 : w0.cell? ⟨w.heap.size, 7, none⟩ = some (.int .i64 st) := K0.cell 7
    have c8 : w0.cell? ⟨w.heap.size, 8, none⟩ = some (.int .i64 ch) := K0.cell 8
    go_wp2_with fail
    refine (HO.out _).mono ?_
    rintro e w1 ⟨rfl, hb1⟩
    have HN := Blk.made w1 26 #[.int .i64 0, .int .i64 0, .int .i64 0, .int .i64 0, .int .i64 0, .int .i64 0, .int .i64 0, .int .i64 0, .int .i64 0, .int .i64 0, .int .i64 0, .int .i64 0, .int .i64 0, .int .i64 0, .int .i64 0, .int .i64 0, .int .i64 0, .int .i64 0, .int .i64 0, .int .i64 0, .int .i64 0, .int .i64 0, .int .i64 0, .int .i64 0, .int .i64 0]
    have hth1 : Hid ((w1.alloc (Obj.cells #[.int .i64 0, .int .i64 0, .int .i64 0, .int .i64 0, .int .i64 0, .int .i64 0, .int .i64 0, .int .i64 0, .int .i64 0, .int .i64 0, .int .i64 0, .int .i64 0, .int .i64 0, .int .i64 0, .int .i64 0, .int .i64 0, .int .i64 0, .int .i64 0, .int .i64 0, .int .i64 0, .int .i64 0, .int .i64 0, .int .i64 0, .int .i64 0, .int .i64 0] 26)).there w1.heap.size 0 X.size) := Lib.hid fun j hj => by
      rw [Nat.zero_add]
      obtain ⟨u, hu⟩ := HN.has j (by rw [hx25.out] at hj; exact hj)
      exact ⟨by rw [hu]; rfl, HN.free j⟩
    have hb01 := below_trans hb0 hb1
    obtain ⟨W1, hW1⟩ : ∃ W, W = (w1.alloc (Obj.cells #[.int .i64 0, .int .i64 0, .int .i64 0, .int .i64 0, .int .i64 0, .int .i64 0, .int .i64 0, .int .i64 0, .int .i64 0, .int .i64 0, .int .i64 0, .int .i64 0, .int .i64 0, .int .i64 0, .int .i64 0, .int .i64 0, .int .i64 0, .int .i64 0, .int .i64 0, .int .i64 0, .int .i64 0, .int .i64 0, .int .i64 0, .int .i64 0, .int .i64 0] 26)).setCells w1.heap.size 0 X.toList := ⟨_, rfl⟩
    have KX1 : Blk W1 w1.heap.size 26 X := by rw [hW1]; exact HN.put_whole X.toList (by rw [Array.length_toList, hx25.out]; rfl)
    have hbW1 : Below V.heap.size V W1 := by rw [hW1]; exact (hb01.alloc hb01.size _).trans (Lib.below_setCells_w hb01.size _ _ _)
    have HW1 := Lib.hid hW1
    have hra1 : Hid (World.rangeAt W1 w1.heap.size 0 X.toList) := Lib.hid fun j v hv => by rw [Nat.zero_add, KX1.cell]; simpa using hv
    clear hW1 HN hb0 hb1 hb01 c0 c1 c2 c3 c4 c5 c6 c7 c8 K0
    have HN2 := Blk.made W1 26 #[.int .i64 0, .int .i64 0, .int .i64 0, .int .i64 0, .int .i64 0, .int .i64 0, .int .i64 0, .int .i64 0, .int .i64 0, .int .i64 0, .int .i64 0, .int .i64 0, .int .i64 0, .int .i64 0, .int .i64 0, .int .i64 0, .int .i64 0, .int .i64 0, .int .i64 0, .int .i64 0, .int .i64 0, .int .i64 0, .int .i64 0, .int .i64 0, .int .i64 0]
    have lX := KX1.lt
    have nX : w1.heap.size ≠ W1.heap.size := by omega
    have hth2 : Hid ((W1.alloc (Obj.cells #[.int .i64 0, .int .i64 0, .int .i64 0, .int .i64 0, .int .i64 0, .int .i64 0, .int .i64 0, .int .i64 0, .int .i64 0, .int .i64 0, .int .i64 0, .int .i64 0, .int .i64 0, .int .i64 0, .int .i64 0, .int .i64 0, .int .i64 0, .int .i64 0, .int .i64 0, .int .i64 0, .int .i64 0, .int .i64 0, .int .i64 0, .int .i64 0, .int .i64 0] 26)).there W1.heap.size 0 X.size) := Lib.hid fun j hj => by
      rw [Nat.zero_add]
      obtain ⟨u, hu⟩ := HN2.has j (by rw [hx25.out] at hj; exact hj)
      exact ⟨by rw [hu]; rfl, HN2.free j⟩
    obtain ⟨W2, hW2⟩ : ∃ W, W = (W1.alloc (Obj.cells #[.int .i64 0, .int .i64 0, .int .i64 0, .int .i64 0, .int .i64 0, .int .i64 0, .int .i64 0, .int .i64 0, .int .i64 0, .int .i64 0, .int .i64 0, .int .i64 0, .int .i64 0, .int .i64 0, .int .i64 0, .int .i64 0, .int .i64 0, .int .i64 0, .int .i64 0, .int .i64 0, .int .i64 0, .int .i64 0, .int .i64 0, .int .i64 0, .int .i64 0] 26)).setCells W1.heap.size 0 X.toList := ⟨_, rfl⟩
    have KM2 : Blk W2 W1.heap.size 26 X := by rw [hW2]; exact HN2.put_whole X.toList (by rw [Array.length_toList, hx25.out]; rfl)
    have KX2 : Blk W2 w1.heap.size 26 X := by rw [hW2]; exact Blk.farAll (w := w) nX _ _ (KX1.alloc _)
    have hbW2 : Below V.heap.size V W2 := by rw [hW2]; exact (hbW1.alloc hbW1.size _).trans (Lib.below_setCells_w hbW1.size _ _ _)
    have HW2 := Lib.hid hW2
    clear hW2 HN2
    obtain ⟨W3, hW3⟩ : ∃ W, W = W2.setCell ⟨W1.heap.size, 9, none⟩ (.int .i64 (wrap64 (a9 + y))) := ⟨_, rfl⟩
    have KM3 : Blk W3 W1.heap.size 26 Y := by rw [hW3, HYE.out]; exact KM2.put 9 _
    have KX3 : Blk W3 w1.heap.size 26 X := by rw [hW3]; exact KX2.far nX _
    have hbW3 : Below V.heap.size V W3 := by rw [hW3]; exact hbW2.setCell hbW1.size _
    have HW3 := Lib.hid hW3
    have m0 : W2.cell? ⟨W1.heap.size, 9, none⟩ = some (.int .i64 a9) := (KM2.cell 9).trans HA9.out
    have mf : W2.frozen? ⟨W1.heap.size, 9, none⟩ = false := KM2.free 9
    have hraX : Hid (World.rangeAt W3 w1.heap.size 0 X.toList) := Lib.hid fun j v hv => by rw [Nat.zero_add, KX3.cell]; simpa using hv
    have hraM : Hid (∀ wx, Below W3.heap.size W3 wx → World.rangeAt wx W1.heap.size 0 Y.toList) := Lib.hid fun wx hx j v hv => by rw [Nat.zero_add, (KM3.later hx).cell]; simpa using hv
    have HB3 := Lib.hid hbW3
    clear hW3 KM2 KX2 hbW2 KX1 hbW1 KM3 KX3 hbW3
    go_wp2_with (first
      | ((with_reducible (show wpList _ _ _ ({ dst := none, op := Op.store 26 (.tmp 8) _, type := _, pos := _, after := _, guard := none } :: _) _ _)); refine wpList_store_mid rfl 26 _ _ rfl w1.heap.size 0 X rfl rfl hth1.out hxi.out hxOn.out ?_; rw [← HW1.out])
      | ((with_reducible (show wpList _ _ _ ({ dst := none, op := Op.store 26 (.tmp 10) _, type := _, pos := _, after := _, guard := none } :: _) _ _)); refine wpList_store_mid rfl 26 _ _ rfl W1.heap.size 0 X rfl rfl hth2.out hxi.out hxOn.out ?_; rw [← HW2.out])
      | (with_reducible (show wpList _ _ _ ({ dst := some 34, op := Op.load 26 _, type := _, pos := _, after := _, guard := none } :: _) _ _); refine wpList_load_mid rfl 26 _ rfl w1.heap.size 0 rfl X.toList _ hra1.out layFields rfl hxj.out ?_)
      | (with_reducible (show wpList _ _ _ ({ dst := some 86, op := Op.load 26 _, type := _, pos := _, after := _, guard := some _ } :: _) _ _); rw [← HW3.out]; refine wpList_load_mid_g rfl 26 _ rfl w1.heap.size 0 rfl X.toList _ hraX.out layFields rfl hxj.out ?_))
    refine (HRT.out _).mono ?_
    rintro e w4 ⟨rfl, hb4⟩
    go_wp2_with (with_reducible (show wpList _ _ _ ({ dst := some 90, op := Op.load 26 _, type := _, pos := _, after := _, guard := some _ } :: _) _ _); refine wpList_load_mid_g rfl 26 _ rfl W1.heap.size 0 rfl Y.toList _ (hraM.out _ hb4) layFields rfl hyj.out ?_)
    refine (HRF.out _).mono ?_
    rintro e w5 ⟨rfl, hb5⟩
    go_wp2_with fail
    go_ret
    exact ⟨rfl, HBV.out.trans ((below_trans HB3.out (below_trans hb4 hb5)).mono HBV.out.size)⟩
  · obtain ⟨Y, hYe⟩ : ∃ Y, Y = X.setIfInBounds 23 (.int .i64 (wrap64 (a23 + y))) := ⟨_, rfl⟩
    have hYc : IntCells Y 25 := by rw [hYe]; exact ints_set _ HXC.out 23 _
    have HRF : Hid (∀ w, Calls Try.prog 12 #[.agg Y] w fun e w' => e = .returned (.bool false) ∧ Below w.heap.size w w') := Lib.hid (by rw [hYe]; exact HTU.out 23 a23 (wrap64 (a23 + y)) (by omega) HA23.out (by have := HY0.out; unfold wrap64; omega))
    have hyj : Hid ((Try.prog.info? 26).map (·.size) = some Y.toList.length) := Lib.hid (by rw [Array.length_toList, hYc.1]; exact lay25)
    have HYE := Lib.hid hYe
    clear hYe hYc
    go_enter Try.func4, Try.ntmps4
    go_wp2_with fail
    rw [← HV.out]
    refine (shown_any V).mono ?_
    rintro e w0 ⟨rfl, hb0⟩
    have K0 := KC.later hb0
    have c0 : w0.cell? ⟨w.heap.size, 0, none⟩ = some (.int .i64 s) := K0.cell 0
    have c1 : w0.cell? ⟨w.heap.size, 1, none⟩ = some (.int .i64 n) := K0.cell 1
    have c2 : w0.cell? ⟨w.heap.size, 2, none⟩ = some (.int .i64 b) := K0.cell 2
    have c3 : w0.cell? ⟨w.heap.size, 3, none⟩ = some (.int .i64 sl) := K0.cell 3
    have c4 : w0.cell? ⟨w.heap.size, 4, none⟩ = some (.int .i64 t) := K0.cell 4
    have c5 : w0.cell? ⟨w.heap.size, 5, none⟩ = some (.int .i64 ce) := K0.cell 5
    have c6 : w0.cell? ⟨w.heap.size, 6, none⟩ = some (.int .i64 ma) := K0.cell 6
    have c7 : w0.cell? ⟨w.heap.size, 7, none⟩ = some (.int .i64 st) := K0.cell 7
    have c8 : w0.cell? ⟨w.heap.size, 8, none⟩ = some (.int .i64 ch) := K0.cell 8
    go_wp2_with fail
    refine (HO.out _).mono ?_
    rintro e w1 ⟨rfl, hb1⟩
    have HN := Blk.made w1 26 #[.int .i64 0, .int .i64 0, .int .i64 0, .int .i64 0, .int .i64 0, .int .i64 0, .int .i64 0, .int .i64 0, .int .i64 0, .int .i64 0, .int .i64 0, .int .i64 0, .int .i64 0, .int .i64 0, .int .i64 0, .int .i64 0, .int .i64 0, .int .i64 0, .int .i64 0, .int .i64 0, .int .i64 0, .int .i64 0, .int .i64 0, .int .i64 0, .int .i64 0]
    have hth1 : Hid ((w1.alloc (Obj.cells #[.int .i64 0, .int .i64 0, .int .i64 0, .int .i64 0, .int .i64 0, .int .i64 0, .int .i64 0, .int .i64 0, .int .i64 0, .int .i64 0, .int .i64 0, .int .i64 0, .int .i64 0, .int .i64 0, .int .i64 0, .int .i64 0, .int .i64 0, .int .i64 0, .int .i64 0, .int .i64 0, .int .i64 0, .int .i64 0, .int .i64 0, .int .i64 0, .int .i64 0] 26)).there w1.heap.size 0 X.size) := Lib.hid fun j hj => by
      rw [Nat.zero_add]
      obtain ⟨u, hu⟩ := HN.has j (by rw [hx25.out] at hj; exact hj)
      exact ⟨by rw [hu]; rfl, HN.free j⟩
    have hb01 := below_trans hb0 hb1
    obtain ⟨W1, hW1⟩ : ∃ W, W = (w1.alloc (Obj.cells #[.int .i64 0, .int .i64 0, .int .i64 0, .int .i64 0, .int .i64 0, .int .i64 0, .int .i64 0, .int .i64 0, .int .i64 0, .int .i64 0, .int .i64 0, .int .i64 0, .int .i64 0, .int .i64 0, .int .i64 0, .int .i64 0, .int .i64 0, .int .i64 0, .int .i64 0, .int .i64 0, .int .i64 0, .int .i64 0, .int .i64 0, .int .i64 0, .int .i64 0] 26)).setCells w1.heap.size 0 X.toList := ⟨_, rfl⟩
    have KX1 : Blk W1 w1.heap.size 26 X := by rw [hW1]; exact HN.put_whole X.toList (by rw [Array.length_toList, hx25.out]; rfl)
    have hbW1 : Below V.heap.size V W1 := by rw [hW1]; exact (hb01.alloc hb01.size _).trans (Lib.below_setCells_w hb01.size _ _ _)
    have HW1 := Lib.hid hW1
    have hra1 : Hid (World.rangeAt W1 w1.heap.size 0 X.toList) := Lib.hid fun j v hv => by rw [Nat.zero_add, KX1.cell]; simpa using hv
    clear hW1 HN hb0 hb1 hb01 c0 c1 c2 c3 c4 c5 c6 c7 c8 K0
    have HN2 := Blk.made W1 26 #[.int .i64 0, .int .i64 0, .int .i64 0, .int .i64 0, .int .i64 0, .int .i64 0, .int .i64 0, .int .i64 0, .int .i64 0, .int .i64 0, .int .i64 0, .int .i64 0, .int .i64 0, .int .i64 0, .int .i64 0, .int .i64 0, .int .i64 0, .int .i64 0, .int .i64 0, .int .i64 0, .int .i64 0, .int .i64 0, .int .i64 0, .int .i64 0, .int .i64 0]
    have lX := KX1.lt
    have nX : w1.heap.size ≠ W1.heap.size := by omega
    have hth2 : Hid ((W1.alloc (Obj.cells #[.int .i64 0, .int .i64 0, .int .i64 0, .int .i64 0, .int .i64 0, .int .i64 0, .int .i64 0, .int .i64 0, .int .i64 0, .int .i64 0, .int .i64 0, .int .i64 0, .int .i64 0, .int .i64 0, .int .i64 0, .int .i64 0, .int .i64 0, .int .i64 0, .int .i64 0, .int .i64 0, .int .i64 0, .int .i64 0, .int .i64 0, .int .i64 0, .int .i64 0] 26)).there W1.heap.size 0 X.size) := Lib.hid fun j hj => by
      rw [Nat.zero_add]
      obtain ⟨u, hu⟩ := HN2.has j (by rw [hx25.out] at hj; exact hj)
      exact ⟨by rw [hu]; rfl, HN2.free j⟩
    obtain ⟨W2, hW2⟩ : ∃ W, W = (W1.alloc (Obj.cells #[.int .i64 0, .int .i64 0, .int .i64 0, .int .i64 0, .int .i64 0, .int .i64 0, .int .i64 0, .int .i64 0, .int .i64 0, .int .i64 0, .int .i64 0, .int .i64 0, .int .i64 0, .int .i64 0, .int .i64 0, .int .i64 0, .int .i64 0, .int .i64 0, .int .i64 0, .int .i64 0, .int .i64 0, .int .i64 0, .int .i64 0, .int .i64 0, .int .i64 0] 26)).setCells W1.heap.size 0 X.toList := ⟨_, rfl⟩
    have KM2 : Blk W2 W1.heap.size 26 X := by rw [hW2]; exact HN2.put_whole X.toList (by rw [Array.length_toList, hx25.out]; rfl)
    have KX2 : Blk W2 w1.heap.size 26 X := by rw [hW2]; exact Blk.farAll (w := w) nX _ _ (KX1.alloc _)
    have hbW2 : Below V.heap.size V W2 := by rw [hW2]; exact (hbW1.alloc hbW1.size _).trans (Lib.below_setCells_w hbW1.size _ _ _)
    have HW2 := Lib.hid hW2
    clear hW2 HN2
    obtain ⟨W3, hW3⟩ : ∃ W, W = W2.setCell ⟨W1.heap.size, 23, none⟩ (.int .i64 (wrap64 (a23 + y))) := ⟨_, rfl⟩
    have KM3 : Blk W3 W1.heap.size 26 Y := by rw [hW3, HYE.out]; exact KM2.put 23 _
    have KX3 : Blk W3 w1.heap.size 26 X := by rw [hW3]; exact KX2.far nX _
    have hbW3 : Below V.heap.size V W3 := by rw [hW3]; exact hbW2.setCell hbW1.size _
    have HW3 := Lib.hid hW3
    have m0 : W2.cell? ⟨W1.heap.size, 23, none⟩ = some (.int .i64 a23) := (KM2.cell 23).trans HA23.out
    have mf : W2.frozen? ⟨W1.heap.size, 23, none⟩ = false := KM2.free 23
    have hraX : Hid (World.rangeAt W3 w1.heap.size 0 X.toList) := Lib.hid fun j v hv => by rw [Nat.zero_add, KX3.cell]; simpa using hv
    have hraM : Hid (∀ wx, Below W3.heap.size W3 wx → World.rangeAt wx W1.heap.size 0 Y.toList) := Lib.hid fun wx hx j v hv => by rw [Nat.zero_add, (KM3.later hx).cell]; simpa using hv
    have HB3 := Lib.hid hbW3
    clear hW3 KM2 KX2 hbW2 KX1 hbW1 KM3 KX3 hbW3
    go_wp2_with (first
      | ((with_reducible (show wpList _ _ _ ({ dst := none, op := Op.store 26 (.tmp 8) _, type := _, pos := _, after := _, guard := none } :: _) _ _)); refine wpList_store_mid rfl 26 _ _ rfl w1.heap.size 0 X rfl rfl hth1.out hxi.out hxOn.out ?_; rw [← HW1.out])
      | ((with_reducible (show wpList _ _ _ ({ dst := none, op := Op.store 26 (.tmp 10) _, type := _, pos := _, after := _, guard := none } :: _) _ _)); refine wpList_store_mid rfl 26 _ _ rfl W1.heap.size 0 X rfl rfl hth2.out hxi.out hxOn.out ?_; rw [← HW2.out])
      | (with_reducible (show wpList _ _ _ ({ dst := some 34, op := Op.load 26 _, type := _, pos := _, after := _, guard := none } :: _) _ _); refine wpList_load_mid rfl 26 _ rfl w1.heap.size 0 rfl X.toList _ hra1.out layFields rfl hxj.out ?_)
      | (with_reducible (show wpList _ _ _ ({ dst := some 86, op := Op.load 26 _, type := _, pos := _, after := _, guard := some _ } :: _) _ _); rw [← HW3.out]; refine wpList_load_mid_g rfl 26 _ rfl w1.heap.size 0 rfl X.toList _ hraX.out layFields rfl hxj.out ?_))
    refine (HRT.out _).mono ?_
    rintro e w4 ⟨rfl, hb4⟩
    go_wp2_with (with_reducible (show wpList _ _ _ ({ dst := some 90, op := Op.load 26 _, type := _, pos := _, after := _, guard := some _ } :: _) _ _); refine wpList_load_mid_g rfl 26 _ rfl W1.heap.size 0 rfl Y.toList _ (hraM.out _ hb4) layFields rfl hyj.out ?_)
    refine (HRF.out _).mono ?_
    rintro e w5 ⟨rfl, hb5⟩
    go_wp2_with fail
    go_ret
    exact ⟨rfl, HBV.out.trans ((below_trans HB3.out (below_trans hb4 hb5)).mono HBV.out.size)⟩
  · obtain ⟨Y, hYe⟩ : ∃ Y, Y = X.setIfInBounds 20 (.int .i64 (wrap64 (a20 + y))) := ⟨_, rfl⟩
    have hYc : IntCells Y 25 := by rw [hYe]; exact ints_set _ HXC.out 20 _
    have HRF : Hid (∀ w, Calls Try.prog 12 #[.agg Y] w fun e w' => e = .returned (.bool false) ∧ Below w.heap.size w w') := Lib.hid (by rw [hYe]; exact HTU.out 20 a20 (wrap64 (a20 + y)) (by omega) HA20.out (by have := HY0.out; unfold wrap64; omega))
    have hyj : Hid ((Try.prog.info? 26).map (·.size) = some Y.toList.length) := Lib.hid (by rw [Array.length_toList, hYc.1]; exact lay25)
    have HYE := Lib.hid hYe
    clear hYe hYc
    go_enter Try.func4, Try.ntmps4
    go_wp2_with fail
    rw [← HV.out]
    refine (shown_any V).mono ?_
    rintro e w0 ⟨rfl, hb0⟩
    have K0 := KC.later hb0
    have c0 : w0.cell? ⟨w.heap.size, 0, none⟩ = some (.int .i64 s) := K0.cell 0
    have c1 : w0.cell? ⟨w.heap.size, 1, none⟩ = some (.int .i64 n) := K0.cell 1
    have c2 : w0.cell? ⟨w.heap.size, 2, none⟩ = some (.int .i64 b) := K0.cell 2
    have c3 : w0.cell? ⟨w.heap.size, 3, none⟩ = some (.int .i64 sl) := K0.cell 3
    have c4 : w0.cell? ⟨w.heap.size, 4, none⟩ = some (.int .i64 t) := K0.cell 4
    have c5 : w0.cell? ⟨w.heap.size, 5, none⟩ = some (.int .i64 ce) := K0.cell 5
    have c6 : w0.cell? ⟨w.heap.size, 6, none⟩ = some (.int .i64 ma) := K0.cell 6
    have c7 : w0.cell? ⟨w.heap.size, 7, none⟩ = some (.int .i64 st) := K0.cell 7
    have c8 : w0.cell? ⟨w.heap.size, 8, none⟩ = some (.int .i64 ch) := K0.cell 8
    go_wp2_with fail
    refine (HO.out _).mono ?_
    rintro e w1 ⟨rfl, hb1⟩
    have HN := Blk.made w1 26 #[.int .i64 0, .int .i64 0, .int .i64 0, .int .i64 0, .int .i64 0, .int .i64 0, .int .i64 0, .int .i64 0, .int .i64 0, .int .i64 0, .int .i64 0, .int .i64 0, .int .i64 0, .int .i64 0, .int .i64 0, .int .i64 0, .int .i64 0, .int .i64 0, .int .i64 0, .int .i64 0, .int .i64 0, .int .i64 0, .int .i64 0, .int .i64 0, .int .i64 0]
    have hth1 : Hid ((w1.alloc (Obj.cells #[.int .i64 0, .int .i64 0, .int .i64 0, .int .i64 0, .int .i64 0, .int .i64 0, .int .i64 0, .int .i64 0, .int .i64 0, .int .i64 0, .int .i64 0, .int .i64 0, .int .i64 0, .int .i64 0, .int .i64 0, .int .i64 0, .int .i64 0, .int .i64 0, .int .i64 0, .int .i64 0, .int .i64 0, .int .i64 0, .int .i64 0, .int .i64 0, .int .i64 0] 26)).there w1.heap.size 0 X.size) := Lib.hid fun j hj => by
      rw [Nat.zero_add]
      obtain ⟨u, hu⟩ := HN.has j (by rw [hx25.out] at hj; exact hj)
      exact ⟨by rw [hu]; rfl, HN.free j⟩
    have hb01 := below_trans hb0 hb1
    obtain ⟨W1, hW1⟩ : ∃ W, W = (w1.alloc (Obj.cells #[.int .i64 0, .int .i64 0, .int .i64 0, .int .i64 0, .int .i64 0, .int .i64 0, .int .i64 0, .int .i64 0, .int .i64 0, .int .i64 0, .int .i64 0, .int .i64 0, .int .i64 0, .int .i64 0, .int .i64 0, .int .i64 0, .int .i64 0, .int .i64 0, .int .i64 0, .int .i64 0, .int .i64 0, .int .i64 0, .int .i64 0, .int .i64 0, .int .i64 0] 26)).setCells w1.heap.size 0 X.toList := ⟨_, rfl⟩
    have KX1 : Blk W1 w1.heap.size 26 X := by rw [hW1]; exact HN.put_whole X.toList (by rw [Array.length_toList, hx25.out]; rfl)
    have hbW1 : Below V.heap.size V W1 := by rw [hW1]; exact (hb01.alloc hb01.size _).trans (Lib.below_setCells_w hb01.size _ _ _)
    have HW1 := Lib.hid hW1
    have hra1 : Hid (World.rangeAt W1 w1.heap.size 0 X.toList) := Lib.hid fun j v hv => by rw [Nat.zero_add, KX1.cell]; simpa using hv
    clear hW1 HN hb0 hb1 hb01 c0 c1 c2 c3 c4 c5 c6 c7 c8 K0
    have HN2 := Blk.made W1 26 #[.int .i64 0, .int .i64 0, .int .i64 0, .int .i64 0, .int .i64 0, .int .i64 0, .int .i64 0, .int .i64 0, .int .i64 0, .int .i64 0, .int .i64 0, .int .i64 0, .int .i64 0, .int .i64 0, .int .i64 0, .int .i64 0, .int .i64 0, .int .i64 0, .int .i64 0, .int .i64 0, .int .i64 0, .int .i64 0, .int .i64 0, .int .i64 0, .int .i64 0]
    have lX := KX1.lt
    have nX : w1.heap.size ≠ W1.heap.size := by omega
    have hth2 : Hid ((W1.alloc (Obj.cells #[.int .i64 0, .int .i64 0, .int .i64 0, .int .i64 0, .int .i64 0, .int .i64 0, .int .i64 0, .int .i64 0, .int .i64 0, .int .i64 0, .int .i64 0, .int .i64 0, .int .i64 0, .int .i64 0, .int .i64 0, .int .i64 0, .int .i64 0, .int .i64 0, .int .i64 0, .int .i64 0, .int .i64 0, .int .i64 0, .int .i64 0, .int .i64 0, .int .i64 0] 26)).there W1.heap.size 0 X.size) := Lib.hid fun j hj => by
      rw [Nat.zero_add]
      obtain ⟨u, hu⟩ := HN2.has j (by rw [hx25.out] at hj; exact hj)
      exact ⟨by rw [hu]; rfl, HN2.free j⟩
    obtain ⟨W2, hW2⟩ : ∃ W, W = (W1.alloc (Obj.cells #[.int .i64 0, .int .i64 0, .int .i64 0, .int .i64 0, .int .i64 0, .int .i64 0, .int .i64 0, .int .i64 0, .int .i64 0, .int .i64 0, .int .i64 0, .int .i64 0, .int .i64 0, .int .i64 0, .int .i64 0, .int .i64 0, .int .i64 0, .int .i64 0, .int .i64 0, .int .i64 0, .int .i64 0, .int .i64 0, .int .i64 0, .int .i64 0, .int .i64 0] 26)).setCells W1.heap.size 0 X.toList := ⟨_, rfl⟩
    have KM2 : Blk W2 W1.heap.size 26 X := by rw [hW2]; exact HN2.put_whole X.toList (by rw [Array.length_toList, hx25.out]; rfl)
    have KX2 : Blk W2 w1.heap.size 26 X := by rw [hW2]; exact Blk.farAll (w := w) nX _ _ (KX1.alloc _)
    have hbW2 : Below V.heap.size V W2 := by rw [hW2]; exact (hbW1.alloc hbW1.size _).trans (Lib.below_setCells_w hbW1.size _ _ _)
    have HW2 := Lib.hid hW2
    clear hW2 HN2
    obtain ⟨W3, hW3⟩ : ∃ W, W = W2.setCell ⟨W1.heap.size, 20, none⟩ (.int .i64 (wrap64 (a20 + y))) := ⟨_, rfl⟩
    have KM3 : Blk W3 W1.heap.size 26 Y := by rw [hW3, HYE.out]; exact KM2.put 20 _
    have KX3 : Blk W3 w1.heap.size 26 X := by rw [hW3]; exact KX2.far nX _
    have hbW3 : Below V.heap.size V W3 := by rw [hW3]; exact hbW2.setCell hbW1.size _
    have HW3 := Lib.hid hW3
    have m0 : W2.cell? ⟨W1.heap.size, 20, none⟩ = some (.int .i64 a20) := (KM2.cell 20).trans HA20.out
    have mf : W2.frozen? ⟨W1.heap.size, 20, none⟩ = false := KM2.free 20
    have hraX : Hid (World.rangeAt W3 w1.heap.size 0 X.toList) := Lib.hid fun j v hv => by rw [Nat.zero_add, KX3.cell]; simpa using hv
    have hraM : Hid (∀ wx, Below W3.heap.size W3 wx → World.rangeAt wx W1.heap.size 0 Y.toList) := Lib.hid fun wx hx j v hv => by rw [Nat.zero_add, (KM3.later hx).cell]; simpa using hv
    have HB3 := Lib.hid hbW3
    clear hW3 KM2 KX2 hbW2 KX1 hbW1 KM3 KX3 hbW3
    go_wp2_with (first
      | ((with_reducible (show wpList _ _ _ ({ dst := none, op := Op.store 26 (.tmp 8) _, type := _, pos := _, after := _, guard := none } :: _) _ _)); refine wpList_store_mid rfl 26 _ _ rfl w1.heap.size 0 X rfl rfl hth1.out hxi.out hxOn.out ?_; rw [← HW1.out])
      | ((with_reducible (show wpList _ _ _ ({ dst := none, op := Op.store 26 (.tmp 10) _, type := _, pos := _, after := _, guard := none } :: _) _ _)); refine wpList_store_mid rfl 26 _ _ rfl W1.heap.size 0 X rfl rfl hth2.out hxi.out hxOn.out ?_; rw [← HW2.out])
      | (with_reducible (show wpList _ _ _ ({ dst := some 34, op := Op.load 26 _, type := _, pos := _, after := _, guard := none } :: _) _ _); refine wpList_load_mid rfl 26 _ rfl w1.heap.size 0 rfl X.toList _ hra1.out layFields rfl hxj.out ?_)
      | (with_reducible (show wpList _ _ _ ({ dst := some 86, op := Op.load 26 _, type := _, pos := _, after := _, guard := some _ } :: _) _ _); rw [← HW3.out]; refine wpList_load_mid_g rfl 26 _ rfl w1.heap.size 0 rfl X.toList _ hraX.out layFields rfl hxj.out ?_))
    refine (HRT.out _).mono ?_
    rintro e w4 ⟨rfl, hb4⟩
    go_wp2_with (with_reducible (show wpList _ _ _ ({ dst := some 90, op := Op.load 26 _, type := _, pos := _, after := _, guard := some _ } :: _) _ _); refine wpList_load_mid_g rfl 26 _ rfl W1.heap.size 0 rfl Y.toList _ (hraM.out _ hb4) layFields rfl hyj.out ?_)
    refine (HRF.out _).mono ?_
    rintro e w5 ⟨rfl, hb5⟩
    go_wp2_with fail
    go_ret
    exact ⟨rfl, HBV.out.trans ((below_trans HB3.out (below_trans hb4 hb5)).mono HBV.out.size)⟩
  · obtain ⟨Y, hYe⟩ : ∃ Y, Y = X.setIfInBounds 4 (.int .i64 (t + 4 * (u + 2))) := ⟨_, rfl⟩
    have hYc : IntCells Y 25 := by rw [hYe]; exact ints_set _ HXC.out 4 _
    have HRF : Hid (∀ w, Calls Try.prog 12 #[.agg Y] w fun e w' => e = .returned (.bool false) ∧ Below w.heap.size w w') := Lib.hid (by rw [hYe]; exact HTA.out (t + 4 * (u + 2)) (by omega))
    have hyj : Hid ((Try.prog.info? 26).map (·.size) = some Y.toList.length) := Lib.hid (by rw [Array.length_toList, hYc.1]; exact lay25)
    have HYE := Lib.hid hYe
    clear hYe hYc
    go_enter Try.func4, Try.ntmps4
    go_wp2_with fail
    rw [← HV.out]
    refine (shown_any V).mono ?_
    rintro e w0 ⟨rfl, hb0⟩
    have K0 := KC.later hb0
    have c0 : w0.cell? ⟨w.heap.size, 0, none⟩ = some (.int .i64 s) := K0.cell 0
    have c1 : w0.cell? ⟨w.heap.size, 1, none⟩ = some (.int .i64 n) := K0.cell 1
    have c2 : w0.cell? ⟨w.heap.size, 2, none⟩ = some (.int .i64 b) := K0.cell 2
    have c3 : w0.cell? ⟨w.heap.size, 3, none⟩ = some (.int .i64 sl) := K0.cell 3
    have c4 : w0.cell? ⟨w.heap.size, 4, none⟩ = some (.int .i64 t) := K0.cell 4
    have c5 : w0.cell? ⟨w.heap.size, 5, none⟩ = some (.int .i64 ce) := K0.cell 5
    have c6 : w0.cell? ⟨w.heap.size, 6, none⟩ = some (.int .i64 ma) := K0.cell 6
    have c7 : w0.cell? ⟨w.heap.size, 7, none⟩ = some (.int .i64 st) := K0.cell 7
    have c8 : w0.cell? ⟨w.heap.size, 8, none⟩ = some (.int .i64 ch) := K0.cell 8
    go_wp2_with fail
    refine (HO.out _).mono ?_
    rintro e w1 ⟨rfl, hb1⟩
    have HN := Blk.made w1 26 #[.int .i64 0, .int .i64 0, .int .i64 0, .int .i64 0, .int .i64 0, .int .i64 0, .int .i64 0, .int .i64 0, .int .i64 0, .int .i64 0, .int .i64 0, .int .i64 0, .int .i64 0, .int .i64 0, .int .i64 0, .int .i64 0, .int .i64 0, .int .i64 0, .int .i64 0, .int .i64 0, .int .i64 0, .int .i64 0, .int .i64 0, .int .i64 0, .int .i64 0]
    have hth1 : Hid ((w1.alloc (Obj.cells #[.int .i64 0, .int .i64 0, .int .i64 0, .int .i64 0, .int .i64 0, .int .i64 0, .int .i64 0, .int .i64 0, .int .i64 0, .int .i64 0, .int .i64 0, .int .i64 0, .int .i64 0, .int .i64 0, .int .i64 0, .int .i64 0, .int .i64 0, .int .i64 0, .int .i64 0, .int .i64 0, .int .i64 0, .int .i64 0, .int .i64 0, .int .i64 0, .int .i64 0] 26)).there w1.heap.size 0 X.size) := Lib.hid fun j hj => by
      rw [Nat.zero_add]
      obtain ⟨u, hu⟩ := HN.has j (by rw [hx25.out] at hj; exact hj)
      exact ⟨by rw [hu]; rfl, HN.free j⟩
    have hb01 := below_trans hb0 hb1
    obtain ⟨W1, hW1⟩ : ∃ W, W = (w1.alloc (Obj.cells #[.int .i64 0, .int .i64 0, .int .i64 0, .int .i64 0, .int .i64 0, .int .i64 0, .int .i64 0, .int .i64 0, .int .i64 0, .int .i64 0, .int .i64 0, .int .i64 0, .int .i64 0, .int .i64 0, .int .i64 0, .int .i64 0, .int .i64 0, .int .i64 0, .int .i64 0, .int .i64 0, .int .i64 0, .int .i64 0, .int .i64 0, .int .i64 0, .int .i64 0] 26)).setCells w1.heap.size 0 X.toList := ⟨_, rfl⟩
    have KX1 : Blk W1 w1.heap.size 26 X := by rw [hW1]; exact HN.put_whole X.toList (by rw [Array.length_toList, hx25.out]; rfl)
    have hbW1 : Below V.heap.size V W1 := by rw [hW1]; exact (hb01.alloc hb01.size _).trans (Lib.below_setCells_w hb01.size _ _ _)
    have HW1 := Lib.hid hW1
    have hra1 : Hid (World.rangeAt W1 w1.heap.size 0 X.toList) := Lib.hid fun j v hv => by rw [Nat.zero_add, KX1.cell]; simpa using hv
    clear hW1 HN hb0 hb1 hb01 c0 c1 c2 c3 c4 c5 c6 c7 c8 K0
    have HN2 := Blk.made W1 26 #[.int .i64 0, .int .i64 0, .int .i64 0, .int .i64 0, .int .i64 0, .int .i64 0, .int .i64 0, .int .i64 0, .int .i64 0, .int .i64 0, .int .i64 0, .int .i64 0, .int .i64 0, .int .i64 0, .int .i64 0, .int .i64 0, .int .i64 0, .int .i64 0, .int .i64 0, .int .i64 0, .int .i64 0, .int .i64 0, .int .i64 0, .int .i64 0, .int .i64 0]
    have lX := KX1.lt
    have nX : w1.heap.size ≠ W1.heap.size := by omega
    have hth2 : Hid ((W1.alloc (Obj.cells #[.int .i64 0, .int .i64 0, .int .i64 0, .int .i64 0, .int .i64 0, .int .i64 0, .int .i64 0, .int .i64 0, .int .i64 0, .int .i64 0, .int .i64 0, .int .i64 0, .int .i64 0, .int .i64 0, .int .i64 0, .int .i64 0, .int .i64 0, .int .i64 0, .int .i64 0, .int .i64 0, .int .i64 0, .int .i64 0, .int .i64 0, .int .i64 0, .int .i64 0] 26)).there W1.heap.size 0 X.size) := Lib.hid fun j hj => by
      rw [Nat.zero_add]
      obtain ⟨u, hu⟩ := HN2.has j (by rw [hx25.out] at hj; exact hj)
      exact ⟨by rw [hu]; rfl, HN2.free j⟩
    obtain ⟨W2, hW2⟩ : ∃ W, W = (W1.alloc (Obj.cells #[.int .i64 0, .int .i64 0, .int .i64 0, .int .i64 0, .int .i64 0, .int .i64 0, .int .i64 0, .int .i64 0, .int .i64 0, .int .i64 0, .int .i64 0, .int .i64 0, .int .i64 0, .int .i64 0, .int .i64 0, .int .i64 0, .int .i64 0, .int .i64 0, .int .i64 0, .int .i64 0, .int .i64 0, .int .i64 0, .int .i64 0, .int .i64 0, .int .i64 0] 26)).setCells W1.heap.size 0 X.toList := ⟨_, rfl⟩
    have KM2 : Blk W2 W1.heap.size 26 X := by rw [hW2]; exact HN2.put_whole X.toList (by rw [Array.length_toList, hx25.out]; rfl)
    have KX2 : Blk W2 w1.heap.size 26 X := by rw [hW2]; exact Blk.farAll (w := w) nX _ _ (KX1.alloc _)
    have hbW2 : Below V.heap.size V W2 := by rw [hW2]; exact (hbW1.alloc hbW1.size _).trans (Lib.below_setCells_w hbW1.size _ _ _)
    have HW2 := Lib.hid hW2
    clear hW2 HN2
    obtain ⟨W3, hW3⟩ : ∃ W, W = W2.setCell ⟨W1.heap.size, 4, none⟩ (.int .i64 (t + 4 * (u + 2))) := ⟨_, rfl⟩
    have KM3 : Blk W3 W1.heap.size 26 Y := by rw [hW3, HYE.out]; exact KM2.put 4 _
    have KX3 : Blk W3 w1.heap.size 26 X := by rw [hW3]; exact KX2.far nX _
    have hbW3 : Below V.heap.size V W3 := by rw [hW3]; exact hbW2.setCell hbW1.size _
    have HW3 := Lib.hid hW3
    have m0 : W2.cell? ⟨W1.heap.size, 4, none⟩ = some (.int .i64 t) := (KM2.cell 4).trans HX4.out
    have mf : W2.frozen? ⟨W1.heap.size, 4, none⟩ = false := KM2.free 4
    have hraX : Hid (World.rangeAt W3 w1.heap.size 0 X.toList) := Lib.hid fun j v hv => by rw [Nat.zero_add, KX3.cell]; simpa using hv
    have hraM : Hid (∀ wx, Below W3.heap.size W3 wx → World.rangeAt wx W1.heap.size 0 Y.toList) := Lib.hid fun wx hx j v hv => by rw [Nat.zero_add, (KM3.later hx).cell]; simpa using hv
    have HB3 := Lib.hid hbW3
    clear hW3 KM2 KX2 hbW2 KX1 hbW1 KM3 KX3 hbW3
    go_wp2_with (first
      | ((with_reducible (show wpList _ _ _ ({ dst := none, op := Op.store 26 (.tmp 8) _, type := _, pos := _, after := _, guard := none } :: _) _ _)); refine wpList_store_mid rfl 26 _ _ rfl w1.heap.size 0 X rfl rfl hth1.out hxi.out hxOn.out ?_; rw [← HW1.out])
      | ((with_reducible (show wpList _ _ _ ({ dst := none, op := Op.store 26 (.tmp 10) _, type := _, pos := _, after := _, guard := none } :: _) _ _)); refine wpList_store_mid rfl 26 _ _ rfl W1.heap.size 0 X rfl rfl hth2.out hxi.out hxOn.out ?_; rw [← HW2.out])
      | (with_reducible (show wpList _ _ _ ({ dst := some 34, op := Op.load 26 _, type := _, pos := _, after := _, guard := none } :: _) _ _); refine wpList_load_mid rfl 26 _ rfl w1.heap.size 0 rfl X.toList _ hra1.out layFields rfl hxj.out ?_)
      | (with_reducible (show wpList _ _ _ ({ dst := some 86, op := Op.load 26 _, type := _, pos := _, after := _, guard := some _ } :: _) _ _); rw [← HW3.out]; refine wpList_load_mid_g rfl 26 _ rfl w1.heap.size 0 rfl X.toList _ hraX.out layFields rfl hxj.out ?_))
    refine (HRT.out _).mono ?_
    rintro e w4 ⟨rfl, hb4⟩
    go_wp2_with (with_reducible (show wpList _ _ _ ({ dst := some 90, op := Op.load 26 _, type := _, pos := _, after := _, guard := some _ } :: _) _ _); refine wpList_load_mid_g rfl 26 _ rfl W1.heap.size 0 rfl Y.toList _ (hraM.out _ hb4) layFields rfl hyj.out ?_)
    refine (HRF.out _).mono ?_
    rintro e w5 ⟨rfl, hb5⟩
    go_wp2_with fail
    go_ret
    exact ⟨rfl, HBV.out.trans ((below_trans HB3.out (below_trans hb4 hb5)).mono HBV.out.size)⟩
end Go.Proofs.Ytbaeckehchpfaaa
