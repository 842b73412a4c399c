/-
  LAYOUT: the law LayoutMore.
-/
import Derived.Test.YtbaeckehchpfaaaRows
import Derived.ProofKit
import Derived.Test.YtbaeckehchpfaaaLayS
import Derived.Deep.CutBlock
namespace Go.Proofs.Ytbaeckehchpfaaa
open Go.ChangeShapes Go.WideShapes Go.ChangeAt Go.RowKit

theorem lay_bd (s n b sl t ce ma st ch : Int) (h : ConfOk s n b sl t ce ma st ch) : 0 ≤ s * cellsP (ringsP t) ∧ s * cellsP (ringsP t) ≤ 992 ∧ 0 ≤ ma * (2 + b) ∧ ma * (2 + b) ≤ 528 ∧ 0 ≤ st * (1 + sl) ∧ st * (1 + sl) ≤ 72 := by
  obtain ⟨⟨hs, hb, hsl, ht, hce, hma, hst, hch, -⟩, hn⟩ := h
  have hrc2 : 4 ≤ cellsP (ringsP t) ∧ cellsP (ringsP t) ≤ 124 := by
    unfold ringsP
    repeat' split
    all_goals (unfold cellsP; simp)
  refine ⟨Int.mul_nonneg (by omega) (by omega), ?_, Int.mul_nonneg (by omega) (by omega), ?_, Int.mul_nonneg (by omega) (by omega), ?_⟩
  · have := Int.mul_le_mul (show s ≤ 8 by omega) hrc2.2 (by omega) (by omega); omega
  · have := Int.mul_le_mul (show ma ≤ 8 by omega) (show 2 + b ≤ 66 by omega) (by omega) (by omega); omega
  · have := Int.mul_le_mul (show st ≤ 8 by omega) (show 1 + sl ≤ 9 by omega) (by omega) (by omega); omega

/-- what Of tells of a conf: its layout, or that it may not be -/
theorem of_any (s n b sl t ce ma st ch : Int) : ∃ (Y : Array Value) (err : Int), (∀ w, Calls Try.prog 10 #[.agg (confC s n b sl t ce ma st ch)] w fun e w' => e = .returned (.tuple #[.agg Y, .int .i64 err]) ∧ Below w.heap.size w w') ∧ IntCells Y 25 ∧ ((err = 0 ∧ Y = layV s n b sl t ce ma st ch) ∨ err = 1) := by
  by_cases h : ConfOk s n b sl t ce ma st ch
  · exact ⟨_, 0, fun w => of_ok s n b sl t ce ma st ch h w, layC_cells .., .inl ⟨rfl, rfl⟩⟩
  · exact ⟨_, 1, fun w => of_no s n b sl t ce ma st ch h w, zeroL_cells, .inr rfl⟩

theorem ints_one (Y : Array Value) (hY : IntCells Y 25) : Y.all (·.oneCell') = true := by
  rw [Array.all_eq_true_iff_forall_mem]
  intro v hv
  obtain ⟨j, hj, he⟩ := Array.mem_iff_getElem.1 hv
  obtain ⟨a, ha⟩ := hY.2 j (by rw [← hY.1]; exact hj)
  rw [Array.getElem?_eq_getElem hj] at ha
  injection ha with ha
  rw [← he, ha]; rfl

set_option maxRecDepth 100000 in
set_option maxHeartbeats 20000000 in
theorem walkLayoutMore (s n b sl t ce ma st ch : Int) (w : World) (_hs : -9223372036854775808 ≤ s ∧ s ≤ 9223372036854775807) (_hn : -9223372036854775808 ≤ n ∧ n ≤ 9223372036854775807) (_hb : -9223372036854775808 ≤ b ∧ b ≤ 9223372036854775807) (_hsl : -9223372036854775808 ≤ sl ∧ sl ≤ 9223372036854775807) (_ht : -9223372036854775808 ≤ t ∧ t ≤ 9223372036854775807) (_hce : -9223372036854775808 ≤ ce ∧ ce ≤ 9223372036854775807) (_hma : -9223372036854775808 ≤ ma ∧ ma ≤ 9223372036854775807) (_hst : -9223372036854775808 ≤ st ∧ st ≤ 9223372036854775807) (_hch : -9223372036854775808 ≤ ch ∧ ch ≤ 9223372036854775807) :
    Calls Try.prog 8 #[.agg #[.int .i64 s, .int .i64 n, .int .i64 b, .int .i64 sl, .int .i64 t, .int .i64 ce, .int .i64 ma, .int .i64 st, .int .i64 ch]] w fun e w' => e = .returned (.bool true) ∧ Below w.heap.size w w' := by
  obtain ⟨V, hV⟩ : ∃ V, V = w.alloc (Obj.cells #[.int .i64 s, .int .i64 n, .int .i64 b, .int .i64 sl, .int .i64 t, .int .i64 ce, .int .i64 ma, .int .i64 st, .int .i64 ch] 23) := ⟨_, rfl⟩
  have hbV : Below w.heap.size w V := by rw [hV]; exact (Below.refl _ w).alloc (Nat.le_refl _) _
  have KC : Blk V w.heap.size 23 #[.int .i64 s, .int .i64 n, .int .i64 b, .int .i64 sl, .int .i64 t, .int .i64 ce, .int .i64 ma, .int .i64 st, .int .i64 ch] := by rw [hV]; exact Blk.made w _ _
  have HV := Lib.hid hV
  have HBV := Lib.hid hbV
  clear hV hbV
  by_cases hok : ConfOk s n b sl t ce ma st ch
  case neg =>
    have HO := Lib.hid fun w => of_no s n b sl t ce ma st ch hok w
    unfold confC at HO
    obtain ⟨ZZ, hZZ⟩ : ∃ ZZ, ZZ = zeroL := ⟨_, rfl⟩
    rw [← hZZ] at HO
    have hZ25 : Hid (ZZ.size = 25) := Lib.hid (by rw [hZZ]; rfl)
    have hZOn : Hid (ZZ.all (·.oneCell') = true) := Lib.hid (by rw [hZZ]; exact ints_one _ zeroL_cells)
    have hZi : Hid ((Try.prog.info? 26).map (·.size) = some ZZ.size) := Lib.hid (by rw [hZZ]; exact lay25)
    clear hZZ hok
    go_enter Try.func8, Try.ntmps8
    go_wp2_with fail
    rw [← HV.out]
    refine (shown_any V).mono ?_
    rintro e w0 ⟨rfl, hb0⟩
    have c0 : w0.cell? ⟨w.heap.size, 0, none⟩ = some (.int .i64 s) := (KC.later hb0).cell 0
    have c1 : w0.cell? ⟨w.heap.size, 1, none⟩ = some (.int .i64 n) := (KC.later hb0).cell 1
    have c2 : w0.cell? ⟨w.heap.size, 2, none⟩ = some (.int .i64 b) := (KC.later hb0).cell 2
    have c3 : w0.cell? ⟨w.heap.size, 3, none⟩ = some (.int .i64 sl) := (KC.later hb0).cell 3
    have c4 : w0.cell? ⟨w.heap.size, 4, none⟩ = some (.int .i64 t) := (KC.later hb0).cell 4
    have c5 : w0.cell? ⟨w.heap.size, 5, none⟩ = some (.int .i64 ce) := (KC.later hb0).cell 5
    have c6 : w0.cell? ⟨w.heap.size, 6, none⟩ = some (.int .i64 ma) := (KC.later hb0).cell 6
    have c7 : w0.cell? ⟨w.heap.size, 7, none⟩ = some (.int .i64 st) := (KC.later hb0).cell 7
    have c8 : w0.cell? ⟨w.heap.size, 8, none⟩ = some (.int .i64 ch) := (KC.later hb0).cell 8
    go_wp2_with fail
    refine (HO.out _).mono ?_
    rintro e w1 ⟨rfl, hb1⟩
    have HN := Blk.made w1 26 #[.int .i64 0, .int .i64 0, .int .i64 0, .int .i64 0, .int .i64 0, .int .i64 0, .int .i64 0, .int .i64 0, .int .i64 0, .int .i64 0, .int .i64 0, .int .i64 0, .int .i64 0, .int .i64 0, .int .i64 0, .int .i64 0, .int .i64 0, .int .i64 0, .int .i64 0, .int .i64 0, .int .i64 0, .int .i64 0, .int .i64 0, .int .i64 0, .int .i64 0]
    have hth1 : Hid ((w1.alloc (Obj.cells #[.int .i64 0, .int .i64 0, .int .i64 0, .int .i64 0, .int .i64 0, .int .i64 0, .int .i64 0, .int .i64 0, .int .i64 0, .int .i64 0, .int .i64 0, .int .i64 0, .int .i64 0, .int .i64 0, .int .i64 0, .int .i64 0, .int .i64 0, .int .i64 0, .int .i64 0, .int .i64 0, .int .i64 0, .int .i64 0, .int .i64 0, .int .i64 0, .int .i64 0] 26)).there w1.heap.size 0 ZZ.size) := Lib.hid fun j hj => by
      rw [Nat.zero_add]
      obtain ⟨u, hu⟩ := HN.has j (by rw [hZ25.out] at hj; exact hj)
      exact ⟨by rw [hu]; rfl, HN.free j⟩
    have hb01 := below_trans hb0 hb1
    have hbW : Below V.heap.size V ((w1.alloc (Obj.cells #[.int .i64 0, .int .i64 0, .int .i64 0, .int .i64 0, .int .i64 0, .int .i64 0, .int .i64 0, .int .i64 0, .int .i64 0, .int .i64 0, .int .i64 0, .int .i64 0, .int .i64 0, .int .i64 0, .int .i64 0, .int .i64 0, .int .i64 0, .int .i64 0, .int .i64 0, .int .i64 0, .int .i64 0, .int .i64 0, .int .i64 0, .int .i64 0, .int .i64 0] 26)).setCells w1.heap.size 0 ZZ.toList) := (hb01.alloc hb01.size _).trans (Lib.below_setCells_w hb01.size _ _ _)
    have HBW := Lib.hid hbW
    clear HN hb0 hb1 hb01 hbW c0 c1 c2 c3 c4 c5 c6 c7 c8
    go_wp2_with ((with_reducible (show wpList _ _ _ ({ dst := none, op := Op.store 26 _ _, type := _, pos := _, after := _, guard := none } :: _) _ _)); refine wpList_store_mid rfl 26 _ _ rfl w1.heap.size 0 ZZ rfl rfl hth1.out hZi.out hZOn.out ?_)
    go_ret
    exact ⟨rfl, HBV.out.trans (HBW.out.mono HBV.out.size)⟩
  have HO := Lib.hid fun w => of_ok s n b sl t ce ma st ch hok w
  obtain ⟨X, hX⟩ : ∃ X, X = layV s n b sl t ce ma st ch := ⟨_, rfl⟩
  rw [← hX] at HO
  have hXc : IntCells X 25 := by rw [hX]; exact layC_cells ..
  have hbd := lay_bd s n b sl t ce ma st ch hok
  have hm := hok.may
  have hnn := hok.nodes
  obtain ⟨hs, hb, hsl, ht, hce, hma, hst, hch, -⟩ := hm
  obtain ⟨R, hR⟩ : ∃ R, s * cellsP (ringsP t) = R := ⟨_, rfl⟩
  obtain ⟨p1, hp1⟩ : ∃ R, ma * (2 + b) = R := ⟨_, rfl⟩
  obtain ⟨p2, hp2⟩ : ∃ R, st * (1 + sl) = R := ⟨_, rfl⟩
  have hp3 : (st + 1) * (1 + sl) = p2 + (1 + sl) := by rw [Int.add_mul, hp2]; omega
  obtain ⟨a19, ha19⟩ : ∃ a, a = 4 + 8 * s + R + 4 * t := ⟨_, rfl⟩
  obtain ⟨a20, ha20⟩ : ∃ a, a = 4 + 8 * s + R + 4 * t + ce := ⟨_, rfl⟩
  obtain ⟨a21, ha21⟩ : ∃ a, a = 4 + 8 * s + R + 4 * t + ce + p1 := ⟨_, rfl⟩
  obtain ⟨a22, ha22⟩ : ∃ a, a = 4 + 8 * s + R + 4 * t + ce + p1 + p2 := ⟨_, rfl⟩
  obtain ⟨a23, ha23⟩ : ∃ a, a = 4 + 8 * s + R + 4 * t + ce + p1 + p2 + 2 * ch := ⟨_, rfl⟩
  obtain ⟨a24, ha24⟩ : ∃ a, a = 4 + 8 * s + R + 4 * t + ce + p1 + p2 + 2 * ch + 8 * n := ⟨_, rfl⟩
  rw [hR, hp1, hp2] at hbd
  have hXf : X[19]? = some (.int .i64 a19) ∧ X[20]? = some (.int .i64 a20) ∧ X[21]? = some (.int .i64 a21) ∧ X[22]? = some (.int .i64 a22) ∧ X[23]? = some (.int .i64 a23) ∧ X[24]? = some (.int .i64 a24) := by
    rw [hX, ha19, ha20, ha21, ha22, ha23, ha24, ← hR, ← hp1, ← hp2]; exact ⟨rfl, rfl, rfl, rfl, rfl, rfl⟩
  obtain ⟨Y2, e2, hO2, y2c, k2⟩ := of_any s (n + 1) b sl t ce ma st ch
  obtain ⟨Y3, e3, hO3, y3c, k3⟩ := of_any s n b sl t ce ma (st + 1) ch
  obtain ⟨Y4, e4, hO4, y4c, k4⟩ := of_any s n b sl t (ce + 1) ma st ch
  have q2 : (e2 = 0 ∧ Y2[23]? = some (.int .i64 a23) ∧ Y2[24]? = some (.int .i64 (a24 + 8))) ∨ e2 = 1 := k2.imp (fun ⟨h1, h2⟩ => ⟨h1, by
    rw [h2, ha23, ha24, show 4 + 8 * s + R + 4 * t + ce + p1 + p2 + 2 * ch + 8 * n + 8 = 4 + 8 * s + R + 4 * t + ce + p1 + p2 + 2 * ch + 8 * (n + 1) by omega, ← hR, ← hp1, ← hp2]; exact ⟨rfl, rfl⟩⟩) id
  have q3 : (e3 = 0 ∧ Y3[21]? = some (.int .i64 a21) ∧ Y3[20]? = some (.int .i64 a20) ∧ Y3[22]? = some (.int .i64 (a22 + 1 + sl)) ∧ Y3[24]? = some (.int .i64 (a24 + 1 + sl))) ∨ e3 = 1 := k3.imp (fun ⟨h1, h2⟩ => ⟨h1, by
    rw [h2, ha20, ha21, ha22, ha24, show 4 + 8 * s + R + 4 * t + ce + p1 + p2 + 1 + sl = 4 + 8 * s + R + 4 * t + ce + p1 + (st + 1) * (1 + sl) by rw [hp3]; omega, show 4 + 8 * s + R + 4 * t + ce + p1 + p2 + 2 * ch + 8 * n + 1 + sl = 4 + 8 * s + R + 4 * t + ce + p1 + (st + 1) * (1 + sl) + 2 * ch + 8 * n by rw [hp3]; omega, ← hR, ← hp1]; exact ⟨rfl, rfl, rfl, rfl⟩⟩) id
  have q4 : (e4 = 0 ∧ Y4[19]? = some (.int .i64 a19) ∧ Y4[20]? = some (.int .i64 (a20 + 1)) ∧ Y4[24]? = some (.int .i64 (a24 + 1))) ∨ e4 = 1 := k4.imp (fun ⟨h1, h2⟩ => ⟨h1, by
    rw [h2, ha19, ha20, ha24, show 4 + 8 * s + R + 4 * t + ce + 1 = 4 + 8 * s + R + 4 * t + (ce + 1) by omega, show 4 + 8 * s + R + 4 * t + ce + p1 + p2 + 2 * ch + 8 * n + 1 = 4 + 8 * s + R + 4 * t + (ce + 1) + p1 + p2 + 2 * ch + 8 * n by omega, ← hR, ← hp1, ← hp2]; exact ⟨rfl, rfl, rfl⟩⟩) id
  have b19 : 0 ≤ a19 ∧ a19 ≤ 50000 := by omega
  have b20 : 0 ≤ a20 ∧ a20 ≤ 50000 := by omega
  have b22 : 0 ≤ a22 ∧ a22 ≤ 50000 := by omega
  have b24 : 0 ≤ a24 ∧ a24 ≤ 50000 := by omega
  unfold confC at HO hO2 hO3 hO4
  have HO2 := Lib.hid hO2
  have HO3 := Lib.hid hO3
  have HO4 := Lib.hid hO4
  have HXS := Lib.hid hXc.1
  have HYS := Lib.hid (show Y2.size = 25 ∧ Y3.size = 25 ∧ Y4.size = 25 from ⟨y2c.1, y3c.1, y4c.1⟩)
  have hOn : Hid (X.all (·.oneCell') = true ∧ Y2.all (·.oneCell') = true ∧ Y3.all (·.oneCell') = true ∧ Y4.all (·.oneCell') = true) := Lib.hid ⟨ints_one _ hXc, ints_one _ y2c, ints_one _ y3c, ints_one _ y4c⟩
  have hi1 : Hid ((Try.prog.info? 26).map (·.size) = some X.size ∧ (Try.prog.info? 26).map (·.size) = some Y2.size ∧ (Try.prog.info? 26).map (·.size) = some Y3.size ∧ (Try.prog.info? 26).map (·.size) = some Y4.size) :=
    Lib.hid (by rw [hXc.1, y2c.1, y3c.1, y4c.1]; exact ⟨lay25, lay25, lay25, lay25⟩)
  have HXF := Lib.hid hXf
  have Q2 := Lib.hid q2
  have Q3 := Lib.hid q3
  have Q4 := Lib.hid q4
  clear hX hXc hR hp1 hp2 hp3 ha19 ha20 ha21 ha22 ha23 ha24 hO2 hO3 hO4 y2c y3c y4c k2 k3 k4 q2 q3 q4 hok hXf hbd hs hb ht hma hch
  go_enter Try.func8, Try.ntmps8
  go_wp2_with fail
  rw [← HV.out]
  refine (shown_any V).mono ?_
  rintro e w0 ⟨rfl, hb0⟩
  have c0 : w0.cell? ⟨w.heap.size, 0, none⟩ = some (.int .i64 s) := (KC.later hb0).cell 0
  have c1 : w0.cell? ⟨w.heap.size, 1, none⟩ = some (.int .i64 n) := (KC.later hb0).cell 1
  have c2 : w0.cell? ⟨w.heap.size, 2, none⟩ = some (.int .i64 b) := (KC.later hb0).cell 2
  have c3 : w0.cell? ⟨w.heap.size, 3, none⟩ = some (.int .i64 sl) := (KC.later hb0).cell 3
  have c4 : w0.cell? ⟨w.heap.size, 4, none⟩ = some (.int .i64 t) := (KC.later hb0).cell 4
  have c5 : w0.cell? ⟨w.heap.size, 5, none⟩ = some (.int .i64 ce) := (KC.later hb0).cell 5
  have c6 : w0.cell? ⟨w.heap.size, 6, none⟩ = some (.int .i64 ma) := (KC.later hb0).cell 6
  have c7 : w0.cell? ⟨w.heap.size, 7, none⟩ = some (.int .i64 st) := (KC.later hb0).cell 7
  have c8 : w0.cell? ⟨w.heap.size, 8, none⟩ = some (.int .i64 ch) := (KC.later hb0).cell 8
  go_wp2_with fail
  refine (HO.out _).mono ?_
  rintro e w1 ⟨rfl, hb1⟩
  clear c0 c1 c2 c3 c4 c5 c6 c7 c8
  obtain ⟨W1, hW1⟩ : ∃ W, W = (w1.alloc (Obj.cells #[.int .i64 0, .int .i64 0, .int .i64 0, .int .i64 0, .int .i64 0, .int .i64 0, .int .i64 0, .int .i64 0, .int .i64 0, .int .i64 0, .int .i64 0, .int .i64 0, .int .i64 0, .int .i64 0, .int .i64 0, .int .i64 0, .int .i64 0, .int .i64 0, .int .i64 0, .int .i64 0, .int .i64 0, .int .i64 0, .int .i64 0, .int .i64 0, .int .i64 0] 26)).setCells w1.heap.size 0 X.toList := ⟨_, rfl⟩
  have HN := Blk.made w1 26 #[.int .i64 0, .int .i64 0, .int .i64 0, .int .i64 0, .int .i64 0, .int .i64 0, .int .i64 0, .int .i64 0, .int .i64 0, .int .i64 0, .int .i64 0, .int .i64 0, .int .i64 0, .int .i64 0, .int .i64 0, .int .i64 0, .int .i64 0, .int .i64 0, .int .i64 0, .int .i64 0, .int .i64 0, .int .i64 0, .int .i64 0, .int .i64 0, .int .i64 0]
  have hb01 := below_trans hb0 hb1
  have KX1 : Blk W1 w1.heap.size 26 X := by rw [hW1]; exact HN.put_whole X.toList (by rw [Array.length_toList, HXS.out]; rfl)
  have hbW1 : Below V.heap.size V W1 := by rw [hW1]; exact (hb01.alloc hb01.size _).trans (Lib.below_setCells_w hb01.size _ _ _)
  have hth1 : Hid ((w1.alloc (Obj.cells #[.int .i64 0, .int .i64 0, .int .i64 0, .int .i64 0, .int .i64 0, .int .i64 0, .int .i64 0, .int .i64 0, .int .i64 0, .int .i64 0, .int .i64 0, .int .i64 0, .int .i64 0, .int .i64 0, .int .i64 0, .int .i64 0, .int .i64 0, .int .i64 0, .int .i64 0, .int .i64 0, .int .i64 0, .int .i64 0, .int .i64 0, .int .i64 0, .int .i64 0] 26)).there w1.heap.size 0 X.size) := Lib.hid fun j hj => by
    rw [Nat.zero_add]
    obtain ⟨u, hu⟩ := HN.has j (by rw [HXS.out] at hj; exact hj)
    exact ⟨by rw [hu]; rfl, HN.free j⟩
  have HW1 := Lib.hid hW1
  have KC1 := KC.later hbW1
  have c0 : W1.cell? ⟨w.heap.size, 0, none⟩ = some (.int .i64 s) := KC1.cell 0
  have c1 : W1.cell? ⟨w.heap.size, 1, none⟩ = some (.int .i64 n) := KC1.cell 1
  have c2 : W1.cell? ⟨w.heap.size, 2, none⟩ = some (.int .i64 b) := KC1.cell 2
  have c3 : W1.cell? ⟨w.heap.size, 3, none⟩ = some (.int .i64 sl) := KC1.cell 3
  have c4 : W1.cell? ⟨w.heap.size, 4, none⟩ = some (.int .i64 t) := KC1.cell 4
  have c5 : W1.cell? ⟨w.heap.size, 5, none⟩ = some (.int .i64 ce) := KC1.cell 5
  have c6 : W1.cell? ⟨w.heap.size, 6, none⟩ = some (.int .i64 ma) := KC1.cell 6
  have c7 : W1.cell? ⟨w.heap.size, 7, none⟩ = some (.int .i64 st) := KC1.cell 7
  have c8 : W1.cell? ⟨w.heap.size, 8, none⟩ = some (.int .i64 ch) := KC1.cell 8
  have lC := KC.lt
  have lX := KX1.lt
  have lV : V.heap.size ≤ w1.heap.size := hb01.size
  clear hW1 HN hb0 hb1 hb01
  have g0 : w.heap.size ≠ W1.heap.size := by omega
  have g1 : w1.heap.size ≠ W1.heap.size := by omega
  obtain ⟨W2, hW2⟩ : ∃ W, W = W1.alloc (Obj.cells #[.int .i64 s, .int .i64 (n + 1), .int .i64 b, .int .i64 sl, .int .i64 t, .int .i64 ce, .int .i64 ma, .int .i64 st, .int .i64 ch] 23) := ⟨_, rfl⟩
  have KD2 : Blk W2 W1.heap.size 23 #[.int .i64 s, .int .i64 (n + 1), .int .i64 b, .int .i64 sl, .int .i64 t, .int .i64 ce, .int .i64 ma, .int .i64 st, .int .i64 ch] := by rw [hW2]; exact Blk.made W1 _ _
  have KC2 : Blk W2 w.heap.size 23 #[.int .i64 s, .int .i64 n, .int .i64 b, .int .i64 sl, .int .i64 t, .int .i64 ce, .int .i64 ma, .int .i64 st, .int .i64 ch] := by rw [hW2]; exact KC1.alloc _
  have KX2 : Blk W2 w1.heap.size 26 X := by rw [hW2]; exact KX1.alloc _
  have hbW2 : Below V.heap.size V W2 := by rw [hW2]; exact hbW1.alloc hbW1.size _
  have HW2 := Lib.hid hW2
  have hfc : ∀ o, (W1.alloc o).cell? ⟨w.heap.size, 1, none⟩ = some (.int .i64 n) := fun o => get_alloc c1
  clear hW2 KC1
  go_wp2_with ((with_reducible (show wpList _ _ _ ({ dst := none, op := Op.store 26 _ _, type := _, pos := _, after := _, guard := none } :: _) _ _)); refine wpList_store_mid rfl 26 _ _ rfl w1.heap.size 0 X rfl rfl hth1.out hi1.out.1 hOn.out.1 ?_; rw [← HW1.out])
  clear c0 c1 c2 c3 c4 c5 c6 c7 c8 hfc
  rw [← HW2.out]
  refine (HO2.out _).mono ?_
  rintro e w2 ⟨rfl, hb2⟩
  have KC2' := KC2.later hb2
  have KD2' := KD2.later hb2
  have KX2' := KX2.later hb2
  have hbw2 := below_trans hbW2 hb2
  have lD := KD2'.lt
  have lC2 := KC2'.lt
  have lX2 := KX2'.lt
  have n1 : w.heap.size ≠ w2.heap.size := by omega
  have n2 : W1.heap.size ≠ w2.heap.size := by omega
  have n3 : w1.heap.size ≠ w2.heap.size := by omega
  obtain ⟨W3, hW3⟩ : ∃ W, W = (w2.alloc (Obj.cells #[.int .i64 0, .int .i64 0, .int .i64 0, .int .i64 0, .int .i64 0, .int .i64 0, .int .i64 0, .int .i64 0, .int .i64 0, .int .i64 0, .int .i64 0, .int .i64 0, .int .i64 0, .int .i64 0, .int .i64 0, .int .i64 0, .int .i64 0, .int .i64 0, .int .i64 0, .int .i64 0, .int .i64 0, .int .i64 0, .int .i64 0, .int .i64 0, .int .i64 0] 26)).setCells w2.heap.size 0 Y2.toList := ⟨_, rfl⟩
  have HN := Blk.made w2 26 #[.int .i64 0, .int .i64 0, .int .i64 0, .int .i64 0, .int .i64 0, .int .i64 0, .int .i64 0, .int .i64 0, .int .i64 0, .int .i64 0, .int .i64 0, .int .i64 0, .int .i64 0, .int .i64 0, .int .i64 0, .int .i64 0, .int .i64 0, .int .i64 0, .int .i64 0, .int .i64 0, .int .i64 0, .int .i64 0, .int .i64 0, .int .i64 0, .int .i64 0]
  have KY3 : Blk W3 w2.heap.size 26 Y2 := by rw [hW3]; exact HN.put_whole Y2.toList (by rw [Array.length_toList, HYS.out.1]; rfl)
  have KC3 : Blk W3 w.heap.size 23 #[.int .i64 s, .int .i64 n, .int .i64 b, .int .i64 sl, .int .i64 t, .int .i64 ce, .int .i64 ma, .int .i64 st, .int .i64 ch] := by rw [hW3]; exact Blk.farAll (w := w) n1 _ _ (KC2'.alloc _)
  have KD3 : Blk W3 W1.heap.size 23 #[.int .i64 s, .int .i64 (n + 1), .int .i64 b, .int .i64 sl, .int .i64 t, .int .i64 ce, .int .i64 ma, .int .i64 st, .int .i64 ch] := by rw [hW3]; exact Blk.farAll (w := w) n2 _ _ (KD2'.alloc _)
  have KX3 : Blk W3 w1.heap.size 26 X := by rw [hW3]; exact Blk.farAll (w := w) n3 _ _ (KX2'.alloc _)
  have hbW3 : Below V.heap.size V W3 := by rw [hW3]; exact (hbw2.alloc hbw2.size _).trans (Lib.below_setCells_w hbw2.size _ _ _)
  have hth2 : Hid ((w2.alloc (Obj.cells #[.int .i64 0, .int .i64 0, .int .i64 0, .int .i64 0, .int .i64 0, .int .i64 0, .int .i64 0, .int .i64 0, .int .i64 0, .int .i64 0, .int .i64 0, .int .i64 0, .int .i64 0, .int .i64 0, .int .i64 0, .int .i64 0, .int .i64 0, .int .i64 0, .int .i64 0, .int .i64 0, .int .i64 0, .int .i64 0, .int .i64 0, .int .i64 0, .int .i64 0] 26)).there w2.heap.size 0 Y2.size) := Lib.hid fun j hj => by
    rw [Nat.zero_add]
    obtain ⟨u, hu⟩ := HN.has j (by rw [HYS.out.1] at hj; exact hj)
    exact ⟨by rw [hu]; rfl, HN.free j⟩
  have HW3 := Lib.hid hW3
  clear hW3 HN hb2 KC2' KD2' KX2' KC2 KD2 KX2 hbW2
  have c0 : W3.cell? ⟨w.heap.size, 0, none⟩ = some (.int .i64 s) := KC3.cell 0
  have c1 : W3.cell? ⟨w.heap.size, 1, none⟩ = some (.int .i64 n) := KC3.cell 1
  have c2 : W3.cell? ⟨w.heap.size, 2, none⟩ = some (.int .i64 b) := KC3.cell 2
  have c3 : W3.cell? ⟨w.heap.size, 3, none⟩ = some (.int .i64 sl) := KC3.cell 3
  have c4 : W3.cell? ⟨w.heap.size, 4, none⟩ = some (.int .i64 t) := KC3.cell 4
  have c5 : W3.cell? ⟨w.heap.size, 5, none⟩ = some (.int .i64 ce) := KC3.cell 5
  have c6 : W3.cell? ⟨w.heap.size, 6, none⟩ = some (.int .i64 ma) := KC3.cell 6
  have c7 : W3.cell? ⟨w.heap.size, 7, none⟩ = some (.int .i64 st) := KC3.cell 7
  have c8 : W3.cell? ⟨w.heap.size, 8, none⟩ = some (.int .i64 ch) := KC3.cell 8
  have d0 : W3.cell? ⟨W1.heap.size, 0, none⟩ = some (.int .i64 s) := KD3.cell 0
  have d1 : W3.cell? ⟨W1.heap.size, 1, none⟩ = some (.int .i64 (n + 1)) := KD3.cell 1
  have d2 : W3.cell? ⟨W1.heap.size, 2, none⟩ = some (.int .i64 b) := KD3.cell 2
  have d3 : W3.cell? ⟨W1.heap.size, 3, none⟩ = some (.int .i64 sl) := KD3.cell 3
  have d4 : W3.cell? ⟨W1.heap.size, 4, none⟩ = some (.int .i64 t) := KD3.cell 4
  have d5 : W3.cell? ⟨W1.heap.size, 5, none⟩ = some (.int .i64 ce) := KD3.cell 5
  have d6 : W3.cell? ⟨W1.heap.size, 6, none⟩ = some (.int .i64 ma) := KD3.cell 6
  have d7 : W3.cell? ⟨W1.heap.size, 7, none⟩ = some (.int .i64 st) := KD3.cell 7
  have d8 : W3.cell? ⟨W1.heap.size, 8, none⟩ = some (.int .i64 ch) := KD3.cell 8
  have df : ∀ o, W3.frozen? ⟨W1.heap.size, o, none⟩ = false := fun o => KD3.free o
  have lV1 : V.heap.size ≤ W1.heap.size := hbW1.size
  have g0' := g0.symm
  obtain ⟨W4, hW4⟩ : ∃ W, W = (((((((((W3.setCell ⟨W1.heap.size, 0, none⟩ (.int .i64 s)).setCell ⟨W1.heap.size, 1, none⟩ (.int .i64 n)).setCell ⟨W1.heap.size, 2, none⟩ (.int .i64 b)).setCell ⟨W1.heap.size, 3, none⟩ (.int .i64 sl)).setCell ⟨W1.heap.size, 4, none⟩ (.int .i64 t)).setCell ⟨W1.heap.size, 5, none⟩ (.int .i64 ce)).setCell ⟨W1.heap.size, 6, none⟩ (.int .i64 ma)).setCell ⟨W1.heap.size, 7, none⟩ (.int .i64 st)).setCell ⟨W1.heap.size, 8, none⟩ (.int .i64 ch)).setCell ⟨W1.heap.size, 7, none⟩ (.int .i64 (st + 1)) := ⟨_, rfl⟩
  have t0 : Blk _ W1.heap.size 23 #[.int .i64 s, .int .i64 (n + 1), .int .i64 b, .int .i64 sl, .int .i64 t, .int .i64 ce, .int .i64 ma, .int .i64 st, .int .i64 ch] := KD3.put 0 (.int .i64 s)
  have t1 : Blk _ W1.heap.size 23 #[.int .i64 s, .int .i64 n, .int .i64 b, .int .i64 sl, .int .i64 t, .int .i64 ce, .int .i64 ma, .int .i64 st, .int .i64 ch] := t0.put 1 (.int .i64 n)
  have t2 : Blk _ W1.heap.size 23 #[.int .i64 s, .int .i64 n, .int .i64 b, .int .i64 sl, .int .i64 t, .int .i64 ce, .int .i64 ma, .int .i64 st, .int .i64 ch] := t1.put 2 (.int .i64 b)
  have t3 : Blk _ W1.heap.size 23 #[.int .i64 s, .int .i64 n, .int .i64 b, .int .i64 sl, .int .i64 t, .int .i64 ce, .int .i64 ma, .int .i64 st, .int .i64 ch] := t2.put 3 (.int .i64 sl)
  have t4 : Blk _ W1.heap.size 23 #[.int .i64 s, .int .i64 n, .int .i64 b, .int .i64 sl, .int .i64 t, .int .i64 ce, .int .i64 ma, .int .i64 st, .int .i64 ch] := t3.put 4 (.int .i64 t)
  have t5 : Blk _ W1.heap.size 23 #[.int .i64 s, .int .i64 n, .int .i64 b, .int .i64 sl, .int .i64 t, .int .i64 ce, .int .i64 ma, .int .i64 st, .int .i64 ch] := t4.put 5 (.int .i64 ce)
  have t6 : Blk _ W1.heap.size 23 #[.int .i64 s, .int .i64 n, .int .i64 b, .int .i64 sl, .int .i64 t, .int .i64 ce, .int .i64 ma, .int .i64 st, .int .i64 ch] := t5.put 6 (.int .i64 ma)
  have t7 : Blk _ W1.heap.size 23 #[.int .i64 s, .int .i64 n, .int .i64 b, .int .i64 sl, .int .i64 t, .int .i64 ce, .int .i64 ma, .int .i64 st, .int .i64 ch] := t6.put 7 (.int .i64 st)
  have t8 : Blk _ W1.heap.size 23 #[.int .i64 s, .int .i64 n, .int .i64 b, .int .i64 sl, .int .i64 t, .int .i64 ce, .int .i64 ma, .int .i64 st, .int .i64 ch] := t7.put 8 (.int .i64 ch)
  have t9 : Blk _ W1.heap.size 23 #[.int .i64 s, .int .i64 n, .int .i64 b, .int .i64 sl, .int .i64 t, .int .i64 ce, .int .i64 ma, .int .i64 (st + 1), .int .i64 ch] := t8.put 7 (.int .i64 (st + 1))
  have KD4 : Blk W4 W1.heap.size 23 #[.int .i64 s, .int .i64 n, .int .i64 b, .int .i64 sl, .int .i64 t, .int .i64 ce, .int .i64 ma, .int .i64 (st + 1), .int .i64 ch] := by rw [hW4]; exact t9
  clear t0 t1 t2 t3 t4 t5 t6 t7 t8 t9
  have KC4 : Blk W4 w.heap.size 23 #[.int .i64 s, .int .i64 n, .int .i64 b, .int .i64 sl, .int .i64 t, .int .i64 ce, .int .i64 ma, .int .i64 st, .int .i64 ch] := by rw [hW4]; exact (((((((((KC3.far g0 _).far g0 _).far g0 _).far g0 _).far g0 _).far g0 _).far g0 _).far g0 _).far g0 _).far g0 _
  have KX4 : Blk W4 w1.heap.size 26 X := by rw [hW4]; exact (((((((((KX3.far g1 _).far g1 _).far g1 _).far g1 _).far g1 _).far g1 _).far g1 _).far g1 _).far g1 _).far g1 _
  have KY4 : Blk W4 w2.heap.size 26 Y2 := by rw [hW4]; exact (((((((((KY3.far n2.symm _).far n2.symm _).far n2.symm _).far n2.symm _).far n2.symm _).far n2.symm _).far n2.symm _).far n2.symm _).far n2.symm _).far n2.symm _
  have hbW4 : Below V.heap.size V W4 := by rw [hW4]; exact (((((((((hbW3.setCell lV1 _).setCell lV1 _).setCell lV1 _).setCell lV1 _).setCell lV1 _).setCell lV1 _).setCell lV1 _).setCell lV1 _).setCell lV1 _).setCell lV1 _
  have HW4 := Lib.hid hW4
  clear hW4
  obtain ⟨hx19, hx20, hx21, hx22, hx23, hx24⟩ := HXF.out
  have x23 : W3.cell? ⟨w1.heap.size, 23, none⟩ = some (.int .i64 a23) := (KX3.cell 23).trans hx23
  have x24 : W3.cell? ⟨w1.heap.size, 24, none⟩ = some (.int .i64 a24) := (KX3.cell 24).trans hx24
  clear hx19 hx20 hx21 hx22 hx23 hx24
  rcases Q2.out with ⟨rfl, f23, f24⟩ | rfl
  all_goals try have y23 : W3.cell? ⟨w2.heap.size, 23, none⟩ = some (.int .i64 a23) := (KY3.cell 23).trans f23
  all_goals try have y24 : W3.cell? ⟨w2.heap.size, 24, none⟩ = some (.int .i64 (a24 + 8)) := (KY3.cell 24).trans f24
  all_goals
    clear KX3 KC3 KD3 KY3 hbW3
    go_upto_region 12 with ((with_reducible (show wpList _ _ _ ({ dst := none, op := Op.store 26 _ _, type := _, pos := _, after := _, guard := none } :: _) _ _)); refine wpList_store_mid rfl 26 _ _ rfl w2.heap.size 0 Y2 rfl rfl hth2.out hi1.out.2.1 hOn.out.2.1 ?_; rw [← HW3.out])
    rw [← HW4.out]
    clear c0 c1 c2 c3 c4 c5 c6 c7 c8 d0 d1 d2 d3 d4 d5 d6 d7 d8 df x23 x24 HW4
    clear lC lX lV lD lC2 lX2
    have k0 : W4.cell? ⟨W1.heap.size, 0, none⟩ = some (.int .i64 s) := KD4.cell 0
    have k1 : W4.cell? ⟨W1.heap.size, 1, none⟩ = some (.int .i64 n) := KD4.cell 1
    have k2 : W4.cell? ⟨W1.heap.size, 2, none⟩ = some (.int .i64 b) := KD4.cell 2
    have k3 : W4.cell? ⟨W1.heap.size, 3, none⟩ = some (.int .i64 sl) := KD4.cell 3
    have k4 : W4.cell? ⟨W1.heap.size, 4, none⟩ = some (.int .i64 t) := KD4.cell 4
    have k5 : W4.cell? ⟨W1.heap.size, 5, none⟩ = some (.int .i64 ce) := KD4.cell 5
    have k6 : W4.cell? ⟨W1.heap.size, 6, none⟩ = some (.int .i64 ma) := KD4.cell 6
    have k7 : W4.cell? ⟨W1.heap.size, 7, none⟩ = some (.int .i64 (st + 1)) := KD4.cell 7
    have k8 : W4.cell? ⟨W1.heap.size, 8, none⟩ = some (.int .i64 ch) := KD4.cell 8
    go_wp2_with fail
    clear k0 k1 k2 k3 k4 k5 k6 k7 k8
    refine (HO3.out _).mono ?_
    rintro e w3 ⟨rfl, hb3⟩
    have KC5' := KC4.later hb3
    have KD5' := KD4.later hb3
    have KX5' := KX4.later hb3
    have KY5' := KY4.later hb3
    have hbw3 := below_trans hbW4 hb3
    have lw2 : V.heap.size ≤ w2.heap.size := hbw2.size
    obtain ⟨W5, hW5⟩ : ∃ W, W = w3.setCells w2.heap.size 0 Y3.toList := ⟨_, rfl⟩
    have KY5 : Blk W5 w2.heap.size 26 Y3 := by rw [hW5]; exact KY5'.put_whole Y3.toList (by rw [Array.length_toList, HYS.out.2.1, HYS.out.1])
    have KC5 : Blk W5 w.heap.size 23 #[.int .i64 s, .int .i64 n, .int .i64 b, .int .i64 sl, .int .i64 t, .int .i64 ce, .int .i64 ma, .int .i64 st, .int .i64 ch] := by rw [hW5]; exact Blk.farAll (w := w) n1 _ _ KC5'
    have KD5 : Blk W5 W1.heap.size 23 #[.int .i64 s, .int .i64 n, .int .i64 b, .int .i64 sl, .int .i64 t, .int .i64 ce, .int .i64 ma, .int .i64 (st + 1), .int .i64 ch] := by rw [hW5]; exact Blk.farAll (w := w) n2 _ _ KD5'
    have KX5 : Blk W5 w1.heap.size 26 X := by rw [hW5]; exact Blk.farAll (w := w) n3 _ _ KX5'
    have hbW5 : Below V.heap.size V W5 := by rw [hW5]; exact hbw3.trans (Lib.below_setCells_w lw2 _ _ _)
    have hth3 : Hid (w3.there w2.heap.size 0 Y3.size) := Lib.hid fun j hj => by
      rw [Nat.zero_add]
      obtain ⟨u, hu⟩ := KY5'.has j (by rw [HYS.out.2.1] at hj; rw [HYS.out.1]; exact hj)
      exact ⟨by rw [hu]; rfl, KY5'.free j⟩
    have HW5 := Lib.hid hW5
    clear hW5 hb3 KC5' KD5' KX5' KY5' KC4 KD4 KX4 KY4 hbW4 hbw3
    have c0 : W5.cell? ⟨w.heap.size, 0, none⟩ = some (.int .i64 s) := KC5.cell 0
    have c1 : W5.cell? ⟨w.heap.size, 1, none⟩ = some (.int .i64 n) := KC5.cell 1
    have c2 : W5.cell? ⟨w.heap.size, 2, none⟩ = some (.int .i64 b) := KC5.cell 2
    have c3 : W5.cell? ⟨w.heap.size, 3, none⟩ = some (.int .i64 sl) := KC5.cell 3
    have c4 : W5.cell? ⟨w.heap.size, 4, none⟩ = some (.int .i64 t) := KC5.cell 4
    have c5 : W5.cell? ⟨w.heap.size, 5, none⟩ = some (.int .i64 ce) := KC5.cell 5
    have c6 : W5.cell? ⟨w.heap.size, 6, none⟩ = some (.int .i64 ma) := KC5.cell 6
    have c7 : W5.cell? ⟨w.heap.size, 7, none⟩ = some (.int .i64 st) := KC5.cell 7
    have c8 : W5.cell? ⟨w.heap.size, 8, none⟩ = some (.int .i64 ch) := KC5.cell 8
    have d0 : W5.cell? ⟨W1.heap.size, 0, none⟩ = some (.int .i64 s) := KD5.cell 0
    have d1 : W5.cell? ⟨W1.heap.size, 1, none⟩ = some (.int .i64 n) := KD5.cell 1
    have d2 : W5.cell? ⟨W1.heap.size, 2, none⟩ = some (.int .i64 b) := KD5.cell 2
    have d3 : W5.cell? ⟨W1.heap.size, 3, none⟩ = some (.int .i64 sl) := KD5.cell 3
    have d4 : W5.cell? ⟨W1.heap.size, 4, none⟩ = some (.int .i64 t) := KD5.cell 4
    have d5 : W5.cell? ⟨W1.heap.size, 5, none⟩ = some (.int .i64 ce) := KD5.cell 5
    have d6 : W5.cell? ⟨W1.heap.size, 6, none⟩ = some (.int .i64 ma) := KD5.cell 6
    have d7 : W5.cell? ⟨W1.heap.size, 7, none⟩ = some (.int .i64 (st + 1)) := KD5.cell 7
    have d8 : W5.cell? ⟨W1.heap.size, 8, none⟩ = some (.int .i64 ch) := KD5.cell 8
    have df : ∀ o, W5.frozen? ⟨W1.heap.size, o, none⟩ = false := fun o => KD5.free o
    obtain ⟨W6, hW6⟩ : ∃ W, W = (((((((((W5.setCell ⟨W1.heap.size, 0, none⟩ (.int .i64 s)).setCell ⟨W1.heap.size, 1, none⟩ (.int .i64 n)).setCell ⟨W1.heap.size, 2, none⟩ (.int .i64 b)).setCell ⟨W1.heap.size, 3, none⟩ (.int .i64 sl)).setCell ⟨W1.heap.size, 4, none⟩ (.int .i64 t)).setCell ⟨W1.heap.size, 5, none⟩ (.int .i64 ce)).setCell ⟨W1.heap.size, 6, none⟩ (.int .i64 ma)).setCell ⟨W1.heap.size, 7, none⟩ (.int .i64 st)).setCell ⟨W1.heap.size, 8, none⟩ (.int .i64 ch)).setCell ⟨W1.heap.size, 5, none⟩ (.int .i64 (ce + 1)) := ⟨_, rfl⟩
    have t0 : Blk _ W1.heap.size 23 #[.int .i64 s, .int .i64 n, .int .i64 b, .int .i64 sl, .int .i64 t, .int .i64 ce, .int .i64 ma, .int .i64 (st + 1), .int .i64 ch] := KD5.put 0 (.int .i64 s)
    have t1 : Blk _ W1.heap.size 23 #[.int .i64 s, .int .i64 n, .int .i64 b, .int .i64 sl, .int .i64 t, .int .i64 ce, .int .i64 ma, .int .i64 (st + 1), .int .i64 ch] := t0.put 1 (.int .i64 n)
    have t2 : Blk _ W1.heap.size 23 #[.int .i64 s, .int .i64 n, .int .i64 b, .int .i64 sl, .int .i64 t, .int .i64 ce, .int .i64 ma, .int .i64 (st + 1), .int .i64 ch] := t1.put 2 (.int .i64 b)
    have t3 : Blk _ W1.heap.size 23 #[.int .i64 s, .int .i64 n, .int .i64 b, .int .i64 sl, .int .i64 t, .int .i64 ce, .int .i64 ma, .int .i64 (st + 1), .int .i64 ch] := t2.put 3 (.int .i64 sl)
    have t4 : Blk _ W1.heap.size 23 #[.int .i64 s, .int .i64 n, .int .i64 b, .int .i64 sl, .int .i64 t, .int .i64 ce, .int .i64 ma, .int .i64 (st + 1), .int .i64 ch] := t3.put 4 (.int .i64 t)
    have t5 : Blk _ W1.heap.size 23 #[.int .i64 s, .int .i64 n, .int .i64 b, .int .i64 sl, .int .i64 t, .int .i64 ce, .int .i64 ma, .int .i64 (st + 1), .int .i64 ch] := t4.put 5 (.int .i64 ce)
    have t6 : Blk _ W1.heap.size 23 #[.int .i64 s, .int .i64 n, .int .i64 b, .int .i64 sl, .int .i64 t, .int .i64 ce, .int .i64 ma, .int .i64 (st + 1), .int .i64 ch] := t5.put 6 (.int .i64 ma)
    have t7 : Blk _ W1.heap.size 23 #[.int .i64 s, .int .i64 n, .int .i64 b, .int .i64 sl, .int .i64 t, .int .i64 ce, .int .i64 ma, .int .i64 st, .int .i64 ch] := t6.put 7 (.int .i64 st)
    have t8 : Blk _ W1.heap.size 23 #[.int .i64 s, .int .i64 n, .int .i64 b, .int .i64 sl, .int .i64 t, .int .i64 ce, .int .i64 ma, .int .i64 st, .int .i64 ch] := t7.put 8 (.int .i64 ch)
    have t9 : Blk _ W1.heap.size 23 #[.int .i64 s, .int .i64 n, .int .i64 b, .int .i64 sl, .int .i64 t, .int .i64 (ce + 1), .int .i64 ma, .int .i64 st, .int .i64 ch] := t8.put 5 (.int .i64 (ce + 1))
    have KD6 : Blk W6 W1.heap.size 23 #[.int .i64 s, .int .i64 n, .int .i64 b, .int .i64 sl, .int .i64 t, .int .i64 (ce + 1), .int .i64 ma, .int .i64 st, .int .i64 ch] := by rw [hW6]; exact t9
    clear t0 t1 t2 t3 t4 t5 t6 t7 t8 t9
    have KX6 : Blk W6 w1.heap.size 26 X := by rw [hW6]; exact (((((((((KX5.far g1 _).far g1 _).far g1 _).far g1 _).far g1 _).far g1 _).far g1 _).far g1 _).far g1 _).far g1 _
    have KY6 : Blk W6 w2.heap.size 26 Y3 := by rw [hW6]; exact (((((((((KY5.far n2.symm _).far n2.symm _).far n2.symm _).far n2.symm _).far n2.symm _).far n2.symm _).far n2.symm _).far n2.symm _).far n2.symm _).far n2.symm _
    have hbW6 : Below V.heap.size V W6 := by rw [hW6]; exact (((((((((hbW5.setCell lV1 _).setCell lV1 _).setCell lV1 _).setCell lV1 _).setCell lV1 _).setCell lV1 _).setCell lV1 _).setCell lV1 _).setCell lV1 _).setCell lV1 _
    have HW6 := Lib.hid hW6
    clear hW6
    obtain ⟨hx19, hx20, hx21, hx22, hx23, hx24⟩ := HXF.out
    have x20 : W5.cell? ⟨w1.heap.size, 20, none⟩ = some (.int .i64 a20) := (KX5.cell 20).trans hx20
    have x21 : W5.cell? ⟨w1.heap.size, 21, none⟩ = some (.int .i64 a21) := (KX5.cell 21).trans hx21
    have x22 : W5.cell? ⟨w1.heap.size, 22, none⟩ = some (.int .i64 a22) := (KX5.cell 22).trans hx22
    have x24 : W5.cell? ⟨w1.heap.size, 24, none⟩ = some (.int .i64 a24) := (KX5.cell 24).trans hx24
    clear hx19 hx20 hx21 hx22 hx23 hx24
  all_goals rcases Q3.out with ⟨rfl, f21, f20, f22, f24'⟩ | rfl
  all_goals try have y21 : W5.cell? ⟨w2.heap.size, 21, none⟩ = some (.int .i64 a21) := (KY5.cell 21).trans f21
  all_goals try have y20 : W5.cell? ⟨w2.heap.size, 20, none⟩ = some (.int .i64 a20) := (KY5.cell 20).trans f20
  all_goals try have y22 : W5.cell? ⟨w2.heap.size, 22, none⟩ = some (.int .i64 (a22 + 1 + sl)) := (KY5.cell 22).trans f22
  all_goals try have y24' : W5.cell? ⟨w2.heap.size, 24, none⟩ = some (.int .i64 (a24 + 1 + sl)) := (KY5.cell 24).trans f24'
  all_goals
    clear KX5 KC5 KD5 KY5 hbW5
    go_upto_region 17 with ((with_reducible (show wpList _ _ _ ({ dst := none, op := Op.store 26 _ _, type := _, pos := _, after := _, guard := none } :: _) _ _)); refine wpList_store_mid rfl 26 _ _ rfl w2.heap.size 0 Y3 rfl rfl hth3.out hi1.out.2.2.1 hOn.out.2.2.1 ?_; rw [← HW5.out])
    rw [← HW6.out]
    clear c0 c1 c2 c3 c4 c5 c6 c7 c8 d0 d1 d2 d3 d4 d5 d6 d7 d8 df x20 x21 x22 x24 HW6
    have k0 : W6.cell? ⟨W1.heap.size, 0, none⟩ = some (.int .i64 s) := KD6.cell 0
    have k1 : W6.cell? ⟨W1.heap.size, 1, none⟩ = some (.int .i64 n) := KD6.cell 1
    have k2 : W6.cell? ⟨W1.heap.size, 2, none⟩ = some (.int .i64 b) := KD6.cell 2
    have k3 : W6.cell? ⟨W1.heap.size, 3, none⟩ = some (.int .i64 sl) := KD6.cell 3
    have k4 : W6.cell? ⟨W1.heap.size, 4, none⟩ = some (.int .i64 t) := KD6.cell 4
    have k5 : W6.cell? ⟨W1.heap.size, 5, none⟩ = some (.int .i64 (ce + 1)) := KD6.cell 5
    have k6 : W6.cell? ⟨W1.heap.size, 6, none⟩ = some (.int .i64 ma) := KD6.cell 6
    have k7 : W6.cell? ⟨W1.heap.size, 7, none⟩ = some (.int .i64 st) := KD6.cell 7
    have k8 : W6.cell? ⟨W1.heap.size, 8, none⟩ = some (.int .i64 ch) := KD6.cell 8
    go_wp2_with fail
    clear k0 k1 k2 k3 k4 k5 k6 k7 k8
    refine (HO4.out _).mono ?_
    rintro e w4 ⟨rfl, hb4⟩
    have KX7' := KX6.later hb4
    have KY7' := KY6.later hb4
    have hbw4 := below_trans hbW6 hb4
    obtain ⟨W7, hW7⟩ : ∃ W, W = w4.setCells w2.heap.size 0 Y4.toList := ⟨_, rfl⟩
    have KY7 : Blk W7 w2.heap.size 26 Y4 := by rw [hW7]; exact KY7'.put_whole Y4.toList (by rw [Array.length_toList, HYS.out.2.2, HYS.out.2.1])
    have KX7 : Blk W7 w1.heap.size 26 X := by rw [hW7]; exact Blk.farAll (w := w) n3 _ _ KX7'
    have hbW7 : Below V.heap.size V W7 := by rw [hW7]; exact hbw4.trans (Lib.below_setCells_w lw2 _ _ _)
    have hth4 : Hid (w4.there w2.heap.size 0 Y4.size) := Lib.hid fun j hj => by
      rw [Nat.zero_add]
      obtain ⟨u, hu⟩ := KY7'.has j (by rw [HYS.out.2.2] at hj; rw [HYS.out.2.1]; exact hj)
      exact ⟨by rw [hu]; rfl, KY7'.free j⟩
    have HW7 := Lib.hid hW7
    clear hW7 hb4 KX7' KY7' KX6 KY6 hbW6 hbw4
    obtain ⟨hx19, hx20, hx21, hx22, hx23, hx24⟩ := HXF.out
    have x19 : W7.cell? ⟨w1.heap.size, 19, none⟩ = some (.int .i64 a19) := (KX7.cell 19).trans hx19
    have x20 : W7.cell? ⟨w1.heap.size, 20, none⟩ = some (.int .i64 a20) := (KX7.cell 20).trans hx20
    have x24 : W7.cell? ⟨w1.heap.size, 24, none⟩ = some (.int .i64 a24) := (KX7.cell 24).trans hx24
    clear hx19 hx20 hx21 hx22 hx23 hx24 KX7
    have HB7 := Lib.hid hbW7
    clear hbW7
  all_goals rcases Q4.out with ⟨rfl, f19, f20', f24''⟩ | rfl
  all_goals try have z19 : W7.cell? ⟨w2.heap.size, 19, none⟩ = some (.int .i64 a19) := (KY7.cell 19).trans f19
  all_goals try have z20 : W7.cell? ⟨w2.heap.size, 20, none⟩ = some (.int .i64 (a20 + 1)) := (KY7.cell 20).trans f20'
  all_goals try have z24 : W7.cell? ⟨w2.heap.size, 24, none⟩ = some (.int .i64 (a24 + 1)) := (KY7.cell 24).trans f24''
  all_goals
    clear KY7
    go_wp2_with ((with_reducible (show wpList _ _ _ ({ dst := none, op := Op.store 26 _ _, type := _, pos := _, after := _, guard := none } :: _) _ _)); refine wpList_store_mid rfl 26 _ _ rfl w2.heap.size 0 Y4 rfl rfl hth4.out hi1.out.2.2.2 hOn.out.2.2.2 ?_; rw [← HW7.out])
    go_ret
    exact ⟨rfl, HBV.out.trans (HB7.out.mono HBV.out.size)⟩
end Go.Proofs.Ytbaeckehchpfaaa
