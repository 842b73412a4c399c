/-
  LAYOUT: the examples.
-/
import Derived.Test.YtbaeckehchpfaaaRows
import Derived.ProofKit
import Derived.Test.YtbaeckehchpfaaaLayK
import Derived.Test.YtbaeckehchpfaaaLayN
import Derived.Test.YtbaeckehchpfaaaLayF
namespace Go.Proofs.Ytbaeckehchpfaaa
open Go.ChangeShapes Go.WideShapes Go.ChangeAt Go.RowKit

set_option maxRecDepth 100000 in
set_option maxHeartbeats 8000000 in
theorem shown_any (w : World) : Calls Try.prog 9 #[] w fun e w' => e = .returned (.bool true) ∧ Below w.heap.size w w' := by
  have hc1 : ConfOk 1 0 1 1 1 0 0 0 0 := ⟨⟨by omega, by omega, by omega, by omega, by omega, by omega, by omega, by omega, .inl rfl⟩, by omega⟩
  have hc0 : ¬ ConfOk 0 0 0 0 0 0 0 0 0 := fun h => by have := h.may.hs; omega
  have HO1 := Lib.hid fun w => of_ok 1 0 1 1 1 0 0 0 0 hc1 w
  have HO0 := Lib.hid fun w => of_no 0 0 0 0 0 0 0 0 0 hc0 w
  have HRT := Lib.hid fun w => right_lay 1 0 1 1 1 0 0 0 0 hc1 w
  unfold confC at HO1 HO0
  obtain ⟨X, hX⟩ : ∃ X, X = layV 1 0 1 1 1 0 0 0 0 := ⟨_, rfl⟩
  rw [← hX] at HO1 HRT
  have hXc : IntCells X 25 := by rw [hX]; exact layC_cells ..
  have HT1 := Lib.hid fun w => pTask X 16 1 1 3 (by rw [hX]; rfl) (by omega) (by rw [hX]; rfl) (by omega) w
  have HT0 := Lib.hid fun w => pTask X 16 1 0 0 (by rw [hX]; rfl) (by omega) (by rw [hX]; rfl) (by omega) w
  have HN1 := Lib.hid fun w => pNode X 20 0 1 0 (by rw [hX]; rfl) (by omega) (by rw [hX]; rfl) (by omega) w
  have HRG := Lib.hid fun w => rings_lay X 1 (by rw [hX]; rfl) w
  rw [show ringsP 1 = 1 from rfl] at HRG
  rw [show atL 16 1 1 1 4 3 4 = 19 from rfl] at HT1
  rw [show atL 16 0 1 1 4 0 4 = -1 from rfl] at HT0
  rw [show atL 20 1 1 0 8 0 8 = -1 from rfl] at HN1
  have hOn : Hid (X.all (·.oneCell') = true) := Lib.hid (by rw [hX]; simp [layV, layC, Value.oneCell'])
  have hi1 : Hid ((Try.prog.info? 26).map (·.size) = some X.size) := Lib.hid (by rw [hXc.1]; exact lay25)
  have hi2 : Hid ((Try.prog.info? 26).map (·.size) = some X.toList.length) := Lib.hid (by rw [Array.length_toList, hXc.1]; exact lay25)
  have hcells : X[13]? = some (.int .i64 4) ∧ X[14]? = some (.int .i64 5) ∧ X[15]? = some (.int .i64 6) ∧ X[16]? = some (.int .i64 9) ∧ X[17]? = some (.int .i64 12) ∧ X[18]? = some (.int .i64 16) ∧ X[24]? = some (.int .i64 20) := by
    rw [hX]; exact ⟨rfl, rfl, rfl, rfl, rfl, rfl, rfl⟩
  have HX := Lib.hid hXc.1
  have HC := Lib.hid hcells
  obtain ⟨ZZ, hZZ⟩ : ∃ ZZ : Array Value, ZZ = #[.int .i64 0, .int .i64 0, .int .i64 0, .int .i64 0, .int .i64 0, .int .i64 0, .int .i64 0, .int .i64 0, .int .i64 0, .int .i64 0, .int .i64 0, .int .i64 0, .int .i64 0, .int .i64 0, .int .i64 0, .int .i64 0, .int .i64 0, .int .i64 0, .int .i64 0, .int .i64 0, .int .i64 0, .int .i64 0, .int .i64 0, .int .i64 0, .int .i64 0] := ⟨_, rfl⟩
  have HO0' : Hid (∀ w, Calls Try.prog 10 #[.agg #[.int .i64 0, .int .i64 0, .int .i64 0, .int .i64 0, .int .i64 0, .int .i64 0, .int .i64 0, .int .i64 0, .int .i64 0]] w fun e w' => e = .returned (.tuple #[.agg ZZ, .int .i64 1]) ∧ Below w.heap.size w w') := Lib.hid (by rw [hZZ]; exact HO0.out)
  have hZ25 : Hid (ZZ.size = 25) := Lib.hid (by rw [hZZ]; rfl)
  have hZOn : Hid (ZZ.all (·.oneCell') = true) := Lib.hid (by rw [hZZ]; simp [Value.oneCell'])
  have hZi : Hid ((Try.prog.info? 26).map (·.size) = some ZZ.size) := Lib.hid (by rw [hZZ]; exact lay25)
  have HZZ := Lib.hid hZZ
  clear hc1 hc0 hX hXc hcells hZZ HO0
  go_enter Try.func9, Try.ntmps9
  go_wp2_with fail
  refine (HO1.out _).mono ?_
  rintro e w1 ⟨rfl, hb1⟩
  obtain ⟨W, hW⟩ : ∃ W, W = (w1.alloc (Obj.cells #[.int .i64 0, .int .i64 0, .int .i64 0, .int .i64 0, .int .i64 0, .int .i64 0, .int .i64 0, .int .i64 0, .int .i64 0, .int .i64 0, .int .i64 0, .int .i64 0, .int .i64 0, .int .i64 0, .int .i64 0, .int .i64 0, .int .i64 0, .int .i64 0, .int .i64 0, .int .i64 0, .int .i64 0, .int .i64 0, .int .i64 0, .int .i64 0, .int .i64 0] 26)).setCells w1.heap.size 0 X.toList := ⟨_, rfl⟩
  have HN := Blk.made w1 26 #[.int .i64 0, .int .i64 0, .int .i64 0, .int .i64 0, .int .i64 0, .int .i64 0, .int .i64 0, .int .i64 0, .int .i64 0, .int .i64 0, .int .i64 0, .int .i64 0, .int .i64 0, .int .i64 0, .int .i64 0, .int .i64 0, .int .i64 0, .int .i64 0, .int .i64 0, .int .i64 0, .int .i64 0, .int .i64 0, .int .i64 0, .int .i64 0, .int .i64 0]
  have HA : Blk W w1.heap.size 26 X := by rw [hW]; exact HN.put_whole X.toList (by rw [Array.length_toList, HX.out]; rfl)
  have hbW : Below w.heap.size w W := by rw [hW]; exact (hb1.alloc hb1.size _).trans (Lib.below_setCells_w hb1.size _ _ _)
  have hth1 : Hid ((w1.alloc (Obj.cells #[.int .i64 0, .int .i64 0, .int .i64 0, .int .i64 0, .int .i64 0, .int .i64 0, .int .i64 0, .int .i64 0, .int .i64 0, .int .i64 0, .int .i64 0, .int .i64 0, .int .i64 0, .int .i64 0, .int .i64 0, .int .i64 0, .int .i64 0, .int .i64 0, .int .i64 0, .int .i64 0, .int .i64 0, .int .i64 0, .int .i64 0, .int .i64 0, .int .i64 0] 26)).there w1.heap.size 0 X.size) := Lib.hid fun j hj => by
    rw [Nat.zero_add]
    obtain ⟨u, hu⟩ := HN.has j (by rw [HX.out] at hj; exact hj)
    exact ⟨by rw [hu]; rfl, HN.free j⟩
  have hra : Hid (∀ wx, Below W.heap.size W wx → World.rangeAt wx w1.heap.size 0 X.toList) := Lib.hid fun wx hx j v hv => by
    rw [Nat.zero_add, (HA.later hx).cell]; simpa using hv
  have hcx : Hid (∀ wx, Below W.heap.size W wx → wx.cell? ⟨w1.heap.size, 13, none⟩ = some (.int .i64 4) ∧ wx.cell? ⟨w1.heap.size, 14, none⟩ = some (.int .i64 5) ∧ wx.cell? ⟨w1.heap.size, 15, none⟩ = some (.int .i64 6) ∧ wx.cell? ⟨w1.heap.size, 16, none⟩ = some (.int .i64 9) ∧ wx.cell? ⟨w1.heap.size, 17, none⟩ = some (.int .i64 12) ∧ wx.cell? ⟨w1.heap.size, 18, none⟩ = some (.int .i64 16) ∧ wx.cell? ⟨w1.heap.size, 24, none⟩ = some (.int .i64 20)) := Lib.hid fun wx hx => by
    have h := HA.later hx
    obtain ⟨a1, a2, a3, a4, a5, a6, a7⟩ := HC.out
    exact ⟨(h.cell _).trans a1, (h.cell _).trans a2, (h.cell _).trans a3, (h.cell _).trans a4, (h.cell _).trans a5, (h.cell _).trans a6, (h.cell _).trans a7⟩
  have HW := Lib.hid hW
  have HBW := Lib.hid hbW
  clear hW hbW HN HA
  go_wp2_with ((with_reducible (show wpList _ _ _ ({ dst := none, op := Op.store 26 _ _, type := _, pos := _, after := _, guard := none } :: _) _ _)); refine wpList_store_mid rfl 26 _ _ rfl w1.heap.size 0 X rfl rfl hth1.out hi1.out hOn.out ?_; rw [← HW.out])
  refine (HO0'.out _).mono ?_
  rintro e w2 ⟨rfl, hb2⟩
  obtain ⟨W2, hW2⟩ : ∃ W2, W2 = (w2.alloc (Obj.cells #[.int .i64 0, .int .i64 0, .int .i64 0, .int .i64 0, .int .i64 0, .int .i64 0, .int .i64 0, .int .i64 0, .int .i64 0, .int .i64 0, .int .i64 0, .int .i64 0, .int .i64 0, .int .i64 0, .int .i64 0, .int .i64 0, .int .i64 0, .int .i64 0, .int .i64 0, .int .i64 0, .int .i64 0, .int .i64 0, .int .i64 0, .int .i64 0, .int .i64 0] 26)).setCells w2.heap.size 0 ZZ.toList := ⟨_, rfl⟩
  have HN2 := Blk.made w2 26 #[.int .i64 0, .int .i64 0, .int .i64 0, .int .i64 0, .int .i64 0, .int .i64 0, .int .i64 0, .int .i64 0, .int .i64 0, .int .i64 0, .int .i64 0, .int .i64 0, .int .i64 0, .int .i64 0, .int .i64 0, .int .i64 0, .int .i64 0, .int .i64 0, .int .i64 0, .int .i64 0, .int .i64 0, .int .i64 0, .int .i64 0, .int .i64 0, .int .i64 0]
  have hb2W : Below W.heap.size W W2 := by rw [hW2]; exact (hb2.alloc hb2.size _).trans (Lib.below_setCells_w hb2.size _ _ _)
  have hth2 : Hid ((w2.alloc (Obj.cells #[.int .i64 0, .int .i64 0, .int .i64 0, .int .i64 0, .int .i64 0, .int .i64 0, .int .i64 0, .int .i64 0, .int .i64 0, .int .i64 0, .int .i64 0, .int .i64 0, .int .i64 0, .int .i64 0, .int .i64 0, .int .i64 0, .int .i64 0, .int .i64 0, .int .i64 0, .int .i64 0, .int .i64 0, .int .i64 0, .int .i64 0, .int .i64 0, .int .i64 0] 26)).there w2.heap.size 0 ZZ.size) := Lib.hid fun j hj => by
    rw [Nat.zero_add]
    obtain ⟨u, hu⟩ := HN2.has j (by rw [hZ25.out] at hj; exact hj)
    exact ⟨by rw [hu]; rfl, HN2.free j⟩
  have HW2 := Lib.hid hW2
  clear hW2 HN2
  go_wp2_with ((with_reducible (show wpList _ _ _ ({ dst := none, op := Op.store 26 _ _, type := _, pos := _, after := _, guard := none } :: _) _ _)); refine wpList_store_mid rfl 26 _ _ rfl w2.heap.size 0 ZZ rfl rfl hth2.out hZi.out hZOn.out ?_; rw [← HW2.out])
  refine (for_shown _ _ (heap_alloc_new W2 _)).mono ?_
  rintro e w3 ⟨rfl, hb3⟩
  have hb3' : Below W.heap.size W w3 := hb2W.trans (((Below.refl _ W2).alloc (Nat.le_refl _) _ |>.trans (hb3.mono (by simp [go_sem]))).mono hb2W.size)
  have lt1 : w1.heap.size < w3.heap.size := by
    have h1 := HW.out
    have h2 := hb3'.size
    have : w1.heap.size < W.heap.size := World.block_lt_of_cell? W _ (hcx.out W (Below.refl _ _)).1
    omega
  have hne : w1.heap.size ≠ w3.heap.size := by omega
  have hne2 : w3.heap.size ≠ w1.heap.size := by omega
  obtain ⟨x13, x14, x15, x16, x17, x18, x24⟩ := hcx.out w3 hb3'
  obtain ⟨W4, hW4⟩ : ∃ W4, W4 = w3.alloc (Obj.cells (confC 2 22 1 1 1 0 1 0 0) 23) := ⟨_, rfl⟩
  have hb4 : Below W.heap.size W W4 := by rw [hW4]; exact hb3'.alloc hb3'.size _
  have K4 : Blk W4 w3.heap.size 23 (confC 2 22 1 1 1 0 1 0 0) := by rw [hW4]; exact Blk.made w3 _ _
  have hw4 := hW4
  unfold confC at hw4
  have HW4 := Lib.hid hw4
  clear hW4 hw4 hb2 hb1 hb2W hb3 lt1
  unfold confC
  have y13 : ∀ o, (w3.alloc o).cell? ⟨w1.heap.size, 13, none⟩ = some (.int .i64 4) := fun o => get_alloc x13
  have y14 : ∀ o, (w3.alloc o).cell? ⟨w1.heap.size, 14, none⟩ = some (.int .i64 5) := fun o => get_alloc x14
  have y15 : ∀ o, (w3.alloc o).cell? ⟨w1.heap.size, 15, none⟩ = some (.int .i64 6) := fun o => get_alloc x15
  have y16 : ∀ o, (w3.alloc o).cell? ⟨w1.heap.size, 16, none⟩ = some (.int .i64 9) := fun o => get_alloc x16
  have y17 : ∀ o, (w3.alloc o).cell? ⟨w1.heap.size, 17, none⟩ = some (.int .i64 12) := fun o => get_alloc x17
  have y18 : ∀ o, (w3.alloc o).cell? ⟨w1.heap.size, 18, none⟩ = some (.int .i64 16) := fun o => get_alloc x18
  have y24 : ∀ o, (w3.alloc o).cell? ⟨w1.heap.size, 24, none⟩ = some (.int .i64 20) := fun o => get_alloc x24
  go_wp2_with (first | (with_reducible (show wpList _ _ _ ({ dst := _, op := Op.load 26 _, type := _, pos := _, after := _, guard := some _ } :: _) _ _); refine wpList_load_mid_g rfl 26 _ rfl w1.heap.size 0 rfl X.toList _ (hra.out _ (hb3'.alloc hb3'.size _)) layFields rfl hi2.out ?_))
  rw [← HW4.out]
  clear y13 y14 y15 y16 y17 y18 y24
  refine (HRT.out _).mono ?_
  rintro e w5 ⟨rfl, hb5⟩
  have B5 := below_trans hb4 hb5
  go_wp2_with (first | (with_reducible (show wpList _ _ _ ({ dst := _, op := Op.load 26 _, type := _, pos := _, after := _, guard := some _ } :: _) _ _); refine wpList_load_mid_g rfl 26 _ rfl w1.heap.size 0 rfl X.toList _ (hra.out _ (B5)) layFields rfl hi2.out ?_))
  refine (HRG.out _).mono ?_
  rintro e w6 ⟨rfl, hb6⟩
  have B6 := below_trans B5 hb6
  go_wp2_with (first | (with_reducible (show wpList _ _ _ ({ dst := _, op := Op.load 26 _, type := _, pos := _, after := _, guard := some _ } :: _) _ _); refine wpList_load_mid_g rfl 26 _ rfl w1.heap.size 0 rfl X.toList _ (hra.out _ (B6)) layFields rfl hi2.out ?_))
  refine (HT1.out _).mono ?_
  rintro e w7 ⟨rfl, hb7⟩
  have B7 := below_trans B6 hb7
  go_wp2_with (first | (with_reducible (show wpList _ _ _ ({ dst := _, op := Op.load 26 _, type := _, pos := _, after := _, guard := some _ } :: _) _ _); refine wpList_load_mid_g rfl 26 _ rfl w1.heap.size 0 rfl X.toList _ (hra.out _ (B7)) layFields rfl hi2.out ?_))
  refine (HT0.out _).mono ?_
  rintro e w8 ⟨rfl, hb8⟩
  have B8 := below_trans B7 hb8
  go_wp2_with (first | (with_reducible (show wpList _ _ _ ({ dst := _, op := Op.load 26 _, type := _, pos := _, after := _, guard := some _ } :: _) _ _); refine wpList_load_mid_g rfl 26 _ rfl w1.heap.size 0 rfl X.toList _ (hra.out _ (B8)) layFields rfl hi2.out ?_))
  refine (HN1.out _).mono ?_
  rintro e w9 ⟨rfl, hb9⟩
  have B9 := below_trans B8 hb9
  have K9 := K4.later (below_trans (below_trans (below_trans (below_trans hb5 hb6) hb7) hb8) hb9)
  have n0 : w9.cell? ⟨w3.heap.size, 0, none⟩ = some (.int .i64 2) := K9.cell 0
  have n1 : w9.cell? ⟨w3.heap.size, 1, none⟩ = some (.int .i64 22) := K9.cell 1
  have n2 : w9.cell? ⟨w3.heap.size, 2, none⟩ = some (.int .i64 1) := K9.cell 2
  have n3 : w9.cell? ⟨w3.heap.size, 3, none⟩ = some (.int .i64 1) := K9.cell 3
  have n4 : w9.cell? ⟨w3.heap.size, 4, none⟩ = some (.int .i64 1) := K9.cell 4
  have n5 : w9.cell? ⟨w3.heap.size, 5, none⟩ = some (.int .i64 0) := K9.cell 5
  have n6 : w9.cell? ⟨w3.heap.size, 6, none⟩ = some (.int .i64 1) := K9.cell 6
  have n7 : w9.cell? ⟨w3.heap.size, 7, none⟩ = some (.int .i64 0) := K9.cell 7
  have n8 : w9.cell? ⟨w3.heap.size, 8, none⟩ = some (.int .i64 0) := K9.cell 8
  have hgd := confGuard
  have qe : ∀ wx, (Op.equalIn 10000 23 (.agg #[.int .i64 2, .int .i64 22, .int .i64 1, .int .i64 1, .int .i64 1, .int .i64 0, .int .i64 1, .int .i64 0, .int .i64 0]) (.agg #[.int .i64 2, .int .i64 22, .int .i64 1, .int .i64 1, .int .i64 1, .int .i64 0, .int .i64 1, .int .i64 0, .int .i64 0])).run Try.prog wx = .ok true wx := fun wx => conf_same _ (confC_cells 2 22 1 1 1 0 1 0 0) wx
  go_wp2_with fail
  go_ret
  exact ⟨rfl, HBW.out.trans (B9.mono HBW.out.size)⟩
end Go.Proofs.Ytbaeckehchpfaaa
