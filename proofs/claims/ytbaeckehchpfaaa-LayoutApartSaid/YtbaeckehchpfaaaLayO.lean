/-
  LAYOUT: the document's Of.
-/
import Derived.Test.YtbaeckehchpfaaaRows
import Derived.ProofKit
import Derived.Deep.Cut
import Derived.Test.YtbaeckehchpfaaaLayU
import Derived.Test.YtbaeckehchpfaaaLayJ
import Derived.Test.YtbaeckehchpfaaaTail
namespace Go.Proofs.Ytbaeckehchpfaaa
open Go.ChangeShapes Go.WideShapes Go.ChangeAt Go.RowKit

set_option maxRecDepth 100000 in
set_option maxHeartbeats 20000000 in
theorem rof_no1 (s n b sl t ce ma st ch : Int) (h : ¬ MayOk s b sl t ce ma st ch) (w : World) :
    Calls Try.prog 11 #[.agg (confC s n b sl t ce ma st ch)] w fun e w' => e = .returned (.tuple #[.agg zeroL, .int .i64 1]) ∧ Below w.heap.size w w' := by
  obtain ⟨ZZ, hZZ⟩ : ∃ ZZ : Array Value, ZZ = #[.int .i64 0, .int .i64 0, .int .i64 0, .int .i64 0, .int .i64 0, .int .i64 0, .int .i64 0, .int .i64 0, .int .i64 0, .int .i64 0, .int .i64 0, .int .i64 0, .int .i64 0, .int .i64 0, .int .i64 0, .int .i64 0, .int .i64 0, .int .i64 0, .int .i64 0, .int .i64 0, .int .i64 0, .int .i64 0, .int .i64 0, .int .i64 0, .int .i64 0] := ⟨_, rfl⟩
  have HZZ := Lib.hid hZZ
  have Hj : Hid ((Try.prog.info? 26).map (·.size) = some ZZ.size) := Lib.hid (by rw [hZZ]; exact lay25)
  have Hi : Hid ((Try.prog.info? 26).map (·.size) = some ZZ.toList.length) := Lib.hid (by rw [hZZ]; exact lay25)
  have Hon : Hid (ZZ.all (·.oneCell') = true) := Lib.hid (by rw [hZZ]; simp [Value.oneCell'])
  clear hZZ
  have hmp : mayP s b sl t ce ma st ch = false := by rw [Bool.eq_false_iff]; exact fun hp => h ((mayP_iff ..).1 hp)
  have HM := Lib.hid fun w => hmp ▸ rmay_any s n b sl t ce ma st ch w
  unfold confC at HM ⊢
  clear hmp h
  go_enter Try.func11, Try.ntmps11
  go_wp2_with fail
  obtain ⟨V, hV⟩ : ∃ V, V = (w.alloc (Obj.cells #[.int .i64 s, .int .i64 n, .int .i64 b, .int .i64 sl, .int .i64 t, .int .i64 ce, .int .i64 ma, .int .i64 st, .int .i64 ch] 23)).alloc (Obj.cells #[.int .i64 0, .int .i64 0, .int .i64 0, .int .i64 0, .int .i64 0, .int .i64 0, .int .i64 0, .int .i64 0, .int .i64 0, .int .i64 0, .int .i64 0, .int .i64 0, .int .i64 0, .int .i64 0, .int .i64 0, .int .i64 0, .int .i64 0, .int .i64 0, .int .i64 0, .int .i64 0, .int .i64 0, .int .i64 0, .int .i64 0, .int .i64 0, .int .i64 0] 26) := ⟨_, rfl⟩
  rw [← hV]
  have HC0 : Blk V w.heap.size 23 #[.int .i64 s, .int .i64 n, .int .i64 b, .int .i64 sl, .int .i64 t, .int .i64 ce, .int .i64 ma, .int .i64 st, .int .i64 ch] := by rw [hV]; exact (Blk.made w _ _).alloc _
  have HZ0 : Blk V (w.heap.size + 1) 26 ZZ := by
    rw [hV, HZZ.out]
    have := Blk.made (w.alloc (Obj.cells #[.int .i64 s, .int .i64 n, .int .i64 b, .int .i64 sl, .int .i64 t, .int .i64 ce, .int .i64 ma, .int .i64 st, .int .i64 ch] 23)) 26 #[.int .i64 0, .int .i64 0, .int .i64 0, .int .i64 0, .int .i64 0, .int .i64 0, .int .i64 0, .int .i64 0, .int .i64 0, .int .i64 0, .int .i64 0, .int .i64 0, .int .i64 0, .int .i64 0, .int .i64 0, .int .i64 0, .int .i64 0, .int .i64 0, .int .i64 0, .int .i64 0, .int .i64 0, .int .i64 0, .int .i64 0, .int .i64 0, .int .i64 0]
    simpa [go_sem] using this
  have hbV : Below w.heap.size w V := by rw [hV]; exact ((Below.refl _ w).alloc (Nat.le_refl _) _).alloc (by simp [go_sem]) _
  clear hV
  refine (HM.out V).mono ?_
  rintro e w2 ⟨rfl, hb2⟩
  have hb02 := hbV.trans (hb2.mono hbV.size)
  have HC2 := HC0.later hb2
  have HZ2 := HZ0.later hb2
  have c1 : w2.cell? ⟨w.heap.size, 1, none⟩ = some (.int .i64 n) := HC2.cell 1
  have c6 : w2.cell? ⟨w.heap.size, 6, none⟩ = some (.int .i64 ma) := HC2.cell 6
  have c8 : w2.cell? ⟨w.heap.size, 8, none⟩ = some (.int .i64 ch) := HC2.cell 8
  have hth : World.there w2 (w.heap.size + 1) 0 ZZ.size := fun j hj => by
    rw [Nat.zero_add]
    obtain ⟨u, hu⟩ := HZ2.has j hj
    exact ⟨by rw [hu]; rfl, HZ2.free j⟩
  have hra2 := World.rangeAt_setCells_same _ _ _ ZZ.toList (by simpa using hth)
  have hbe := hb02.trans (Lib.below_setCells_w (Nat.le_succ w.heap.size) ZZ.toList 0 _)
  have Hth := Lib.hid hth
  have Hra2 := Lib.hid hra2
  have Hbe := Lib.hid hbe
  clear HC0 HZ0 HC2 HZ2 hth hra2 hbe hbV hb2 hb02
  go_wp2_with ((with_reducible (show wpList _ _ _ ({ dst := none, op := Op.store 26 _ _, type := _, pos := _, after := _, guard := none } :: _) _ _)); rw [← HZZ.out]; refine wpList_store_mid rfl 26 _ _ rfl (w.heap.size + 1) 0 ZZ rfl rfl Hth.out Hj.out Hon.out ?_)
  refine bodyPost_ret (v := .tuple #[.agg ZZ.toList.toArray, .int .i64 1]) ?_ rfl ?_
  · exact results_cell_mid Try.results11 _ _ (w.heap.size + 1) ZZ.toList _ rfl rfl Hra2.out layFields rfl Hi.out
  · exact ⟨by rw [Array.toArray_toList, HZZ.out]; rfl, Hbe.out⟩

set_option maxRecDepth 100000 in
set_option maxHeartbeats 20000000 in
theorem rof_no2 (s n b sl t ce ma st ch : Int) (h : MayOk s b sl t ce ma st ch) (hn : n < ma + ch ∨ 1000 < n) (w : World) :
    Calls Try.prog 11 #[.agg (confC s n b sl t ce ma st ch)] w fun e w' => e = .returned (.tuple #[.agg zeroL, .int .i64 1]) ∧ Below w.heap.size w w' := by
  obtain ⟨ZZ, hZZ⟩ : ∃ ZZ : Array Value, ZZ = #[.int .i64 0, .int .i64 0, .int .i64 0, .int .i64 0, .int .i64 0, .int .i64 0, .int .i64 0, .int .i64 0, .int .i64 0, .int .i64 0, .int .i64 0, .int .i64 0, .int .i64 0, .int .i64 0, .int .i64 0, .int .i64 0, .int .i64 0, .int .i64 0, .int .i64 0, .int .i64 0, .int .i64 0, .int .i64 0, .int .i64 0, .int .i64 0, .int .i64 0] := ⟨_, rfl⟩
  have HZZ := Lib.hid hZZ
  have Hj : Hid ((Try.prog.info? 26).map (·.size) = some ZZ.size) := Lib.hid (by rw [hZZ]; exact lay25)
  have Hi : Hid ((Try.prog.info? 26).map (·.size) = some ZZ.toList.length) := Lib.hid (by rw [hZZ]; exact lay25)
  have Hon : Hid (ZZ.all (·.oneCell') = true) := Lib.hid (by rw [hZZ]; simp [Value.oneCell'])
  clear hZZ
  have hmp : mayP s b sl t ce ma st ch = true := (mayP_iff ..).2 h
  have HM := Lib.hid fun w => hmp ▸ rmay_any s n b sl t ce ma st ch w
  have hip : inP n (ma + ch) 1000 = false := by unfold inP; simp; omega
  have HI := Lib.hid fun w => hip ▸ rin_any n (ma + ch) 1000 w
  have hma := h.hma
  have hch := h.hch
  unfold confC at HM ⊢
  clear hmp h hip hn
  go_enter Try.func11, Try.ntmps11
  go_wp2_with fail
  obtain ⟨V, hV⟩ : ∃ V, V = (w.alloc (Obj.cells #[.int .i64 s, .int .i64 n, .int .i64 b, .int .i64 sl, .int .i64 t, .int .i64 ce, .int .i64 ma, .int .i64 st, .int .i64 ch] 23)).alloc (Obj.cells #[.int .i64 0, .int .i64 0, .int .i64 0, .int .i64 0, .int .i64 0, .int .i64 0, .int .i64 0, .int .i64 0, .int .i64 0, .int .i64 0, .int .i64 0, .int .i64 0, .int .i64 0, .int .i64 0, .int .i64 0, .int .i64 0, .int .i64 0, .int .i64 0, .int .i64 0, .int .i64 0, .int .i64 0, .int .i64 0, .int .i64 0, .int .i64 0, .int .i64 0] 26) := ⟨_, rfl⟩
  rw [← hV]
  have HC0 : Blk V w.heap.size 23 #[.int .i64 s, .int .i64 n, .int .i64 b, .int .i64 sl, .int .i64 t, .int .i64 ce, .int .i64 ma, .int .i64 st, .int .i64 ch] := by rw [hV]; exact (Blk.made w _ _).alloc _
  have HZ0 : Blk V (w.heap.size + 1) 26 ZZ := by
    rw [hV, HZZ.out]
    have := Blk.made (w.alloc (Obj.cells #[.int .i64 s, .int .i64 n, .int .i64 b, .int .i64 sl, .int .i64 t, .int .i64 ce, .int .i64 ma, .int .i64 st, .int .i64 ch] 23)) 26 #[.int .i64 0, .int .i64 0, .int .i64 0, .int .i64 0, .int .i64 0, .int .i64 0, .int .i64 0, .int .i64 0, .int .i64 0, .int .i64 0, .int .i64 0, .int .i64 0, .int .i64 0, .int .i64 0, .int .i64 0, .int .i64 0, .int .i64 0, .int .i64 0, .int .i64 0, .int .i64 0, .int .i64 0, .int .i64 0, .int .i64 0, .int .i64 0, .int .i64 0]
    simpa [go_sem] using this
  have hbV : Below w.heap.size w V := by rw [hV]; exact ((Below.refl _ w).alloc (Nat.le_refl _) _).alloc (by simp [go_sem]) _
  clear hV
  refine (HM.out V).mono ?_
  rintro e w2 ⟨rfl, hb2⟩
  have hb02 := hbV.trans (hb2.mono hbV.size)
  have HC2 := HC0.later hb2
  have HZ2 := HZ0.later hb2
  have c1 : w2.cell? ⟨w.heap.size, 1, none⟩ = some (.int .i64 n) := HC2.cell 1
  have c6 : w2.cell? ⟨w.heap.size, 6, none⟩ = some (.int .i64 ma) := HC2.cell 6
  have c8 : w2.cell? ⟨w.heap.size, 8, none⟩ = some (.int .i64 ch) := HC2.cell 8
  have hth : World.there w2 (w.heap.size + 1) 0 ZZ.size := fun j hj => by
    rw [Nat.zero_add]
    obtain ⟨u, hu⟩ := HZ2.has j hj
    exact ⟨by rw [hu]; rfl, HZ2.free j⟩
  have hra2 := World.rangeAt_setCells_same _ _ _ ZZ.toList (by simpa using hth)
  have hbe := hb02.trans (Lib.below_setCells_w (Nat.le_succ w.heap.size) ZZ.toList 0 _)
  have Hth := Lib.hid hth
  have Hra2 := Lib.hid hra2
  have Hbe := Lib.hid hbe
  clear HC0 HZ0 HC2 HZ2 hth hra2 hbe hbV hb2 hb02
  go_wp2_with fail
  refine (HI.out _).mono ?_
  rintro e w' ⟨rfl, rfl⟩
  go_wp2_with ((with_reducible (show wpList _ _ _ ({ dst := none, op := Op.store 26 _ _, type := _, pos := _, after := _, guard := none } :: _) _ _)); rw [← HZZ.out]; refine wpList_store_mid rfl 26 _ _ rfl (w.heap.size + 1) 0 ZZ rfl rfl Hth.out Hj.out Hon.out ?_)
  refine bodyPost_ret (v := .tuple #[.agg ZZ.toList.toArray, .int .i64 1]) ?_ rfl ?_
  · exact results_cell_mid Try.results11 _ _ (w.heap.size + 1) ZZ.toList _ rfl rfl Hra2.out layFields rfl Hi.out
  · exact ⟨by rw [Array.toArray_toList, HZZ.out]; rfl, Hbe.out⟩

theorem rof_no (s n b sl t ce ma st ch : Int) (h : ¬ ConfOk s n b sl t ce ma st ch) (w : World) :
    Calls Try.prog 11 #[.agg (confC s n b sl t ce ma st ch)] w fun e w' => e = .returned (.tuple #[.agg zeroL, .int .i64 1]) ∧ Below w.heap.size w w' := by
  by_cases hm : MayOk s b sl t ce ma st ch
  · exact rof_no2 s n b sl t ce ma st ch hm (by
      refine Classical.byContradiction fun hn => h ⟨hm, by omega⟩) w
  · exact rof_no1 s n b sl t ce ma st ch hm w

set_option maxRecDepth 100000 in
set_option maxHeartbeats 40000000 in
theorem rof_ok (s n b sl t ce ma st ch : Int) (h : ConfOk s n b sl t ce ma st ch) (w : World) :
    Calls Try.prog 11 #[.agg (confC s n b sl t ce ma st ch)] w fun e w' => e = .returned (.tuple #[.agg (layV s n b sl t ce ma st ch), .int .i64 0]) ∧ Below w.heap.size w w' := by
  obtain ⟨ZZ, hZZ⟩ : ∃ ZZ : Array Value, ZZ = #[.int .i64 0, .int .i64 0, .int .i64 0, .int .i64 0, .int .i64 0, .int .i64 0, .int .i64 0, .int .i64 0, .int .i64 0, .int .i64 0, .int .i64 0, .int .i64 0, .int .i64 0, .int .i64 0, .int .i64 0, .int .i64 0, .int .i64 0, .int .i64 0, .int .i64 0, .int .i64 0, .int .i64 0, .int .i64 0, .int .i64 0, .int .i64 0, .int .i64 0] := ⟨_, rfl⟩
  have HZZ := Lib.hid hZZ
  have Hj : Hid ((Try.prog.info? 26).map (·.size) = some ZZ.size) := Lib.hid (by rw [hZZ]; exact lay25)
  have Hi : Hid ((Try.prog.info? 26).map (·.size) = some ZZ.toList.length) := Lib.hid (by rw [hZZ]; exact lay25)
  have Hon : Hid (ZZ.all (·.oneCell') = true) := Lib.hid (by rw [hZZ]; simp [Value.oneCell'])
  clear hZZ
  have hmp : mayP s b sl t ce ma st ch = true := (mayP_iff ..).2 h.may
  have HM := Lib.hid fun w => hmp ▸ rmay_any s n b sl t ce ma st ch w
  have hip : inP n (ma + ch) 1000 = true := by unfold inP; have := h.nodes; simp; omega
  have HI := Lib.hid fun w => hip ▸ rin_any n (ma + ch) 1000 w
  obtain ⟨L0, hL0⟩ : ∃ L0 : Array Value, L0 = #[.int .i64 s, .int .i64 n, .int .i64 b, .int .i64 sl, .int .i64 t, .int .i64 ce, .int .i64 ma, .int .i64 st, .int .i64 ch, .int .i64 0, .int .i64 1, .int .i64 2, .int .i64 3, .int .i64 4, .int .i64 0, .int .i64 0, .int .i64 0, .int .i64 0, .int .i64 0, .int .i64 0, .int .i64 0, .int .i64 0, .int .i64 0, .int .i64 0, .int .i64 0] := ⟨_, rfl⟩
  have HRG : Hid (∀ w, Calls Try.prog 14 #[.agg L0] w fun e w' => e = .returned (.int .i64 (ringsP t)) ∧ Below w.heap.size w w') := Lib.hid fun w => rrings_lay L0 t (by rw [hL0]; rfl) (by have := h.may.ht; omega) w
  have hl25 : Hid (L0.size = 25) := Lib.hid (by rw [hL0]; rfl)
  have hlOn : Hid (L0.all (·.oneCell') = true) := Lib.hid (by rw [hL0]; simp [Value.oneCell'])
  have hli : Hid ((Try.prog.info? 26).map (·.size) = some L0.size) := Lib.hid (by rw [hL0]; exact lay25)
  have hlj : Hid ((Try.prog.info? 26).map (·.size) = some L0.toList.length) := Lib.hid (by rw [hL0]; exact lay25)
  have HL0 := Lib.hid hL0
  obtain ⟨⟨hs, hb, hsl, ht, hce, hma, hst, hch, -⟩, hn⟩ := h
  have hrg := rings_le t
  obtain ⟨q, hq⟩ : ∃ q, ringsP t = q := ⟨_, rfl⟩
  have hcl := cells_le q (by omega)
  have HRM : Hid (∀ w, Calls Try.prog 28 #[.int .i64 q] w fun e w' => e = .returned (.int .i64 (cellsP q)) ∧ w' = w) := Lib.hid fun w => rroom_any q (by omega) (by omega) w
  rw [hq] at HRG hrg
  obtain ⟨c, hc⟩ : ∃ c, cellsP q = c := ⟨_, rfl⟩
  rw [hc] at HRM hcl
  obtain ⟨p3, hp3⟩ : ∃ p, s * c = p := ⟨_, rfl⟩
  obtain ⟨p1, hp1⟩ : ∃ p, ma * (b + 2) = p := ⟨_, rfl⟩
  obtain ⟨p2, hp2⟩ : ∃ p, st * (sl + 1) = p := ⟨_, rfl⟩
  have q1 : 0 ≤ p1 ∧ p1 ≤ 528 := by
    rw [← hp1]
    exact ⟨Int.mul_nonneg (by omega) (by omega), by have := Int.mul_le_mul (show ma ≤ 8 by omega) (show b + 2 ≤ 66 by omega) (by omega) (by omega); omega⟩
  have q2 : 0 ≤ p2 ∧ p2 ≤ 72 := by
    rw [← hp2]
    exact ⟨Int.mul_nonneg (by omega) (by omega), by have := Int.mul_le_mul (show st ≤ 8 by omega) (show sl + 1 ≤ 9 by omega) (by omega) (by omega); omega⟩
  have q3 : 0 ≤ p3 ∧ p3 ≤ 992 := by
    rw [← hp3]
    exact ⟨Int.mul_nonneg (by omega) (by omega), by have := Int.mul_le_mul (show s ≤ 8 by omega) (show c ≤ 124 by omega) (by omega) (by omega); omega⟩
  obtain ⟨v14, e14⟩ : ∃ v, 4 + s = v := ⟨_, rfl⟩
  obtain ⟨v15, e15⟩ : ∃ v, v14 + s = v := ⟨_, rfl⟩
  obtain ⟨v16, e16⟩ : ∃ v, v15 + 3 * s = v := ⟨_, rfl⟩
  obtain ⟨v17, e17⟩ : ∃ v, v16 + 3 * s = v := ⟨_, rfl⟩
  obtain ⟨v18, e18⟩ : ∃ v, v17 + p3 = v := ⟨_, rfl⟩
  obtain ⟨v19, e19⟩ : ∃ v, v18 + 4 * t = v := ⟨_, rfl⟩
  obtain ⟨v20, e20⟩ : ∃ v, v19 + ce = v := ⟨_, rfl⟩
  obtain ⟨v21, e21⟩ : ∃ v, v20 + p1 = v := ⟨_, rfl⟩
  obtain ⟨v22, e22⟩ : ∃ v, v21 + p2 = v := ⟨_, rfl⟩
  obtain ⟨v23, e23⟩ : ∃ v, v22 + 2 * ch = v := ⟨_, rfl⟩
  obtain ⟨v24, e24⟩ : ∃ v, v23 + 8 * n = v := ⟨_, rfl⟩
  have hfin : layV s n b sl t ce ma st ch = #[.int .i64 s, .int .i64 n, .int .i64 b, .int .i64 sl, .int .i64 t, .int .i64 ce, .int .i64 ma, .int .i64 st, .int .i64 ch, .int .i64 0, .int .i64 1, .int .i64 2, .int .i64 3, .int .i64 4, .int .i64 v14, .int .i64 v15, .int .i64 v16, .int .i64 v17, .int .i64 v18, .int .i64 v19, .int .i64 v20, .int .i64 v21, .int .i64 v22, .int .i64 v23, .int .i64 v24] := by
    unfold layV layC
    rw [hq, hc, hp3, show ma * (2 + b) = p1 by rw [Int.add_comm 2 b, hp1], show st * (1 + sl) = p2 by rw [Int.add_comm 1 sl, hp2]]
    rw [show 4 + 8 * s + p3 + 4 * t + ce + p1 + p2 + 2 * ch + 8 * n = v24 by omega, show 4 + 8 * s + p3 + 4 * t + ce + p1 + p2 + 2 * ch = v23 by omega, show 4 + 8 * s + p3 + 4 * t + ce + p1 + p2 = v22 by omega, show 4 + 8 * s + p3 + 4 * t + ce + p1 = v21 by omega,
      show 4 + 8 * s + p3 + 4 * t + ce = v20 by omega, show 4 + 8 * s + p3 + 4 * t = v19 by omega, show 4 + 8 * s + p3 = v18 by omega, show 4 + 8 * s = v17 by omega, show 4 + 5 * s = v16 by omega, show 4 + 2 * s = v15 by omega, e14]
  have b14 : 0 ≤ v14 ∧ v14 ≤ 20000 := by omega
  have b15 : 0 ≤ v15 ∧ v15 ≤ 20000 := by omega
  have b16 : 0 ≤ v16 ∧ v16 ≤ 20000 := by omega
  have b17 : 0 ≤ v17 ∧ v17 ≤ 20000 := by omega
  have b18 : 0 ≤ v18 ∧ v18 ≤ 20000 := by omega
  have b19 : 0 ≤ v19 ∧ v19 ≤ 20000 := by omega
  have b20 : 0 ≤ v20 ∧ v20 ≤ 20000 := by omega
  have b21 : 0 ≤ v21 ∧ v21 ≤ 20000 := by omega
  have b22 : 0 ≤ v22 ∧ v22 ≤ 20000 := by omega
  have b23 : 0 ≤ v23 ∧ v23 ≤ 20000 := by omega
  have HF := Lib.hid hfin
  have E18 := Lib.hid e18
  have E19 := Lib.hid e19
  have E20 := Lib.hid e20
  have E21 := Lib.hid e21
  have E22 := Lib.hid e22
  have E23 := Lib.hid e23
  have E24 := Lib.hid e24
  have HP1 := Lib.hid hp1
  have HP2 := Lib.hid hp2
  have HP3 := Lib.hid hp3
  unfold confC at HM ⊢
  clear hmp hip hL0 hq hc hfin hp1 hp2 hp3 e18 e19 e20 e21 e22 e23 e24
  go_enter Try.func11, Try.ntmps11
  go_wp2_with fail
  obtain ⟨V, hV⟩ : ∃ V, V = (w.alloc (Obj.cells #[.int .i64 s, .int .i64 n, .int .i64 b, .int .i64 sl, .int .i64 t, .int .i64 ce, .int .i64 ma, .int .i64 st, .int .i64 ch] 23)).alloc (Obj.cells #[.int .i64 0, .int .i64 0, .int .i64 0, .int .i64 0, .int .i64 0, .int .i64 0, .int .i64 0, .int .i64 0, .int .i64 0, .int .i64 0, .int .i64 0, .int .i64 0, .int .i64 0, .int .i64 0, .int .i64 0, .int .i64 0, .int .i64 0, .int .i64 0, .int .i64 0, .int .i64 0, .int .i64 0, .int .i64 0, .int .i64 0, .int .i64 0, .int .i64 0] 26) := ⟨_, rfl⟩
  rw [← hV]
  have HC0 : Blk V w.heap.size 23 #[.int .i64 s, .int .i64 n, .int .i64 b, .int .i64 sl, .int .i64 t, .int .i64 ce, .int .i64 ma, .int .i64 st, .int .i64 ch] := by rw [hV]; exact (Blk.made w _ _).alloc _
  have HZ0 : Blk V (w.heap.size + 1) 26 ZZ := by
    rw [hV, HZZ.out]
    have := Blk.made (w.alloc (Obj.cells #[.int .i64 s, .int .i64 n, .int .i64 b, .int .i64 sl, .int .i64 t, .int .i64 ce, .int .i64 ma, .int .i64 st, .int .i64 ch] 23)) 26 #[.int .i64 0, .int .i64 0, .int .i64 0, .int .i64 0, .int .i64 0, .int .i64 0, .int .i64 0, .int .i64 0, .int .i64 0, .int .i64 0, .int .i64 0, .int .i64 0, .int .i64 0, .int .i64 0, .int .i64 0, .int .i64 0, .int .i64 0, .int .i64 0, .int .i64 0, .int .i64 0, .int .i64 0, .int .i64 0, .int .i64 0, .int .i64 0, .int .i64 0]
    simpa [go_sem] using this
  have hbV : Below w.heap.size w V := by rw [hV]; exact ((Below.refl _ w).alloc (Nat.le_refl _) _).alloc (by simp [go_sem]) _
  clear hV
  refine (HM.out V).mono ?_
  rintro e w2 ⟨rfl, hb2⟩
  have hb02 := hbV.trans (hb2.mono hbV.size)
  have HC2 := HC0.later hb2
  have HZ2 := HZ0.later hb2
  have c0 : w2.cell? ⟨w.heap.size, 0, none⟩ = some (.int .i64 s) := HC2.cell 0
  have c1 : w2.cell? ⟨w.heap.size, 1, none⟩ = some (.int .i64 n) := HC2.cell 1
  have c2 : w2.cell? ⟨w.heap.size, 2, none⟩ = some (.int .i64 b) := HC2.cell 2
  have c3 : w2.cell? ⟨w.heap.size, 3, none⟩ = some (.int .i64 sl) := HC2.cell 3
  have c4 : w2.cell? ⟨w.heap.size, 4, none⟩ = some (.int .i64 t) := HC2.cell 4
  have c5 : w2.cell? ⟨w.heap.size, 5, none⟩ = some (.int .i64 ce) := HC2.cell 5
  have c6 : w2.cell? ⟨w.heap.size, 6, none⟩ = some (.int .i64 ma) := HC2.cell 6
  have c7 : w2.cell? ⟨w.heap.size, 7, none⟩ = some (.int .i64 st) := HC2.cell 7
  have c8 : w2.cell? ⟨w.heap.size, 8, none⟩ = some (.int .i64 ch) := HC2.cell 8
  have lZ := HZ2.lt
  clear HC0 HZ0 hbV hb2
  go_wp2_with fail
  refine (HI.out _).mono ?_
  rintro e w' ⟨rfl, rfl⟩
  obtain ⟨w2, rfl⟩ : ∃ x : World, x = w' := ⟨_, rfl⟩
  obtain ⟨W0, hW0⟩ : ∃ W, W = (w2.alloc (Obj.cells #[.int .i64 0, .int .i64 0, .int .i64 0, .int .i64 0, .int .i64 0, .int .i64 0, .int .i64 0, .int .i64 0, .int .i64 0, .int .i64 0, .int .i64 0, .int .i64 0, .int .i64 0, .int .i64 0, .int .i64 0, .int .i64 0, .int .i64 0, .int .i64 0, .int .i64 0, .int .i64 0, .int .i64 0, .int .i64 0, .int .i64 0, .int .i64 0, .int .i64 0] 26)).setCells w2.heap.size 0 L0.toList := ⟨_, rfl⟩
  have HN := Blk.made w2 26 #[.int .i64 0, .int .i64 0, .int .i64 0, .int .i64 0, .int .i64 0, .int .i64 0, .int .i64 0, .int .i64 0, .int .i64 0, .int .i64 0, .int .i64 0, .int .i64 0, .int .i64 0, .int .i64 0, .int .i64 0, .int .i64 0, .int .i64 0, .int .i64 0, .int .i64 0, .int .i64 0, .int .i64 0, .int .i64 0, .int .i64 0, .int .i64 0, .int .i64 0]
  have n1 : w.heap.size ≠ w2.heap.size := by omega
  have n2 : w.heap.size + 1 ≠ w2.heap.size := by omega
  have KL0 : Blk W0 w2.heap.size 26 L0 := by rw [hW0]; exact HN.put_whole L0.toList (by rw [Array.length_toList, hl25.out]; rfl)
  have KC0 : Blk W0 w.heap.size 23 #[.int .i64 s, .int .i64 n, .int .i64 b, .int .i64 sl, .int .i64 t, .int .i64 ce, .int .i64 ma, .int .i64 st, .int .i64 ch] := by rw [hW0]; exact Blk.farAll (w := w) n1 _ _ (HC2.alloc _)
  have KZ0 : Blk W0 (w.heap.size + 1) 26 ZZ := by rw [hW0]; exact Blk.farAll (w := w) n2 _ _ (HZ2.alloc _)
  have hbW0 : Below w.heap.size w W0 := by rw [hW0]; exact (hb02.alloc hb02.size _).trans (Lib.below_setCells_w (by omega) _ _ _)
  have hth1 : Hid ((w2.alloc (Obj.cells #[.int .i64 0, .int .i64 0, .int .i64 0, .int .i64 0, .int .i64 0, .int .i64 0, .int .i64 0, .int .i64 0, .int .i64 0, .int .i64 0, .int .i64 0, .int .i64 0, .int .i64 0, .int .i64 0, .int .i64 0, .int .i64 0, .int .i64 0, .int .i64 0, .int .i64 0, .int .i64 0, .int .i64 0, .int .i64 0, .int .i64 0, .int .i64 0, .int .i64 0] 26)).there w2.heap.size 0 L0.size) := Lib.hid fun j hj => by
    rw [Nat.zero_add]
    obtain ⟨u, hu⟩ := HN.has j (by rw [hl25.out] at hj; exact hj)
    exact ⟨by rw [hu]; rfl, HN.free j⟩
  have hra0 : Hid (World.rangeAt W0 w2.heap.size 0 L0.toList) := Lib.hid fun j v hv => by rw [Nat.zero_add, KL0.cell]; simpa using hv
  have HW0 := Lib.hid hW0
  clear hW0 HN HC2 HZ2 hb02
  go_wp2_with (first
    | ((with_reducible (show wpList _ _ _ ({ dst := none, op := Op.store 26 _ _, type := _, pos := _, after := _, guard := none } :: _) _ _)); rw [← HL0.out]; refine wpList_store_mid rfl 26 _ _ rfl w2.heap.size 0 L0 rfl rfl hth1.out hli.out hlOn.out ?_; rw [← HW0.out])
    | (with_reducible (show wpList _ _ _ ({ dst := _, op := Op.load 26 _, type := _, pos := _, after := _, guard := none } :: _) _ _); refine wpList_load_mid rfl 26 _ rfl w2.heap.size 0 rfl L0.toList _ hra0.out layFields rfl hlj.out ?_))
  refine (HRG.out _).mono ?_
  rintro e W1 ⟨rfl, hb1⟩
  have KL1 : Blk W1 w2.heap.size 26 #[.int .i64 s, .int .i64 n, .int .i64 b, .int .i64 sl, .int .i64 t, .int .i64 ce, .int .i64 ma, .int .i64 st, .int .i64 ch, .int .i64 0, .int .i64 1, .int .i64 2, .int .i64 3, .int .i64 4, .int .i64 0, .int .i64 0, .int .i64 0, .int .i64 0, .int .i64 0, .int .i64 0, .int .i64 0, .int .i64 0, .int .i64 0, .int .i64 0, .int .i64 0] := HL0.out ▸ KL0.later hb1
  have KC1 := KC0.later hb1
  have KZ1 := KZ0.later hb1
  have hbW1 : Below w.heap.size w W1 := hbW0.trans (hb1.mono hbW0.size)
  clear KL0 KC0 KZ0 hbW0 hb1 c0 c1 c2 c3 c4 c5 c6 c7 c8
  have c0 : W1.cell? ⟨w.heap.size, 0, none⟩ = some (.int .i64 s) := KC1.cell 0
  have c1 : W1.cell? ⟨w.heap.size, 1, none⟩ = some (.int .i64 n) := KC1.cell 1
  have c2 : W1.cell? ⟨w.heap.size, 2, none⟩ = some (.int .i64 b) := KC1.cell 2
  have c3 : W1.cell? ⟨w.heap.size, 3, none⟩ = some (.int .i64 sl) := KC1.cell 3
  have c4 : W1.cell? ⟨w.heap.size, 4, none⟩ = some (.int .i64 t) := KC1.cell 4
  have c5 : W1.cell? ⟨w.heap.size, 5, none⟩ = some (.int .i64 ce) := KC1.cell 5
  have c6 : W1.cell? ⟨w.heap.size, 6, none⟩ = some (.int .i64 ma) := KC1.cell 6
  have c7 : W1.cell? ⟨w.heap.size, 7, none⟩ = some (.int .i64 st) := KC1.cell 7
  have c8 : W1.cell? ⟨w.heap.size, 8, none⟩ = some (.int .i64 ch) := KC1.cell 8
  have l13 : W1.cell? ⟨w2.heap.size, 13, none⟩ = some (.int .i64 4) := KL1.cell 13
  have l14 : W1.cell? ⟨w2.heap.size, 14, none⟩ = some (.int .i64 0) := KL1.cell 14
  have l15 : W1.cell? ⟨w2.heap.size, 15, none⟩ = some (.int .i64 0) := KL1.cell 15
  have l16 : W1.cell? ⟨w2.heap.size, 16, none⟩ = some (.int .i64 0) := KL1.cell 16
  have l17 : W1.cell? ⟨w2.heap.size, 17, none⟩ = some (.int .i64 0) := KL1.cell 17
  have lfz : ∀ o, W1.frozen? ⟨w2.heap.size, o, none⟩ = false := fun o => KL1.free o
  obtain ⟨W5, hW5⟩ : ∃ W, W = (((W1.setCell ⟨w2.heap.size, 14, none⟩ (.int .i64 v14)).setCell ⟨w2.heap.size, 15, none⟩ (.int .i64 v15)).setCell ⟨w2.heap.size, 16, none⟩ (.int .i64 v16)).setCell ⟨w2.heap.size, 17, none⟩ (.int .i64 v17) := ⟨_, rfl⟩
  have t14 : Blk _ w2.heap.size 26 #[.int .i64 s, .int .i64 n, .int .i64 b, .int .i64 sl, .int .i64 t, .int .i64 ce, .int .i64 ma, .int .i64 st, .int .i64 ch, .int .i64 0, .int .i64 1, .int .i64 2, .int .i64 3, .int .i64 4, .int .i64 v14, .int .i64 0, .int .i64 0, .int .i64 0, .int .i64 0, .int .i64 0, .int .i64 0, .int .i64 0, .int .i64 0, .int .i64 0, .int .i64 0] := KL1.put 14 (.int .i64 v14)
  have t15 : Blk _ w2.heap.size 26 #[.int .i64 s, .int .i64 n, .int .i64 b, .int .i64 sl, .int .i64 t, .int .i64 ce, .int .i64 ma, .int .i64 st, .int .i64 ch, .int .i64 0, .int .i64 1, .int .i64 2, .int .i64 3, .int .i64 4, .int .i64 v14, .int .i64 v15, .int .i64 0, .int .i64 0, .int .i64 0, .int .i64 0, .int .i64 0, .int .i64 0, .int .i64 0, .int .i64 0, .int .i64 0] := t14.put 15 (.int .i64 v15)
  have t16 : Blk _ w2.heap.size 26 #[.int .i64 s, .int .i64 n, .int .i64 b, .int .i64 sl, .int .i64 t, .int .i64 ce, .int .i64 ma, .int .i64 st, .int .i64 ch, .int .i64 0, .int .i64 1, .int .i64 2, .int .i64 3, .int .i64 4, .int .i64 v14, .int .i64 v15, .int .i64 v16, .int .i64 0, .int .i64 0, .int .i64 0, .int .i64 0, .int .i64 0, .int .i64 0, .int .i64 0, .int .i64 0] := t15.put 16 (.int .i64 v16)
  have t17 : Blk _ w2.heap.size 26 #[.int .i64 s, .int .i64 n, .int .i64 b, .int .i64 sl, .int .i64 t, .int .i64 ce, .int .i64 ma, .int .i64 st, .int .i64 ch, .int .i64 0, .int .i64 1, .int .i64 2, .int .i64 3, .int .i64 4, .int .i64 v14, .int .i64 v15, .int .i64 v16, .int .i64 v17, .int .i64 0, .int .i64 0, .int .i64 0, .int .i64 0, .int .i64 0, .int .i64 0, .int .i64 0] := t16.put 17 (.int .i64 v17)
  have KL5 : Blk W5 w2.heap.size 26 #[.int .i64 s, .int .i64 n, .int .i64 b, .int .i64 sl, .int .i64 t, .int .i64 ce, .int .i64 ma, .int .i64 st, .int .i64 ch, .int .i64 0, .int .i64 1, .int .i64 2, .int .i64 3, .int .i64 4, .int .i64 v14, .int .i64 v15, .int .i64 v16, .int .i64 v17, .int .i64 0, .int .i64 0, .int .i64 0, .int .i64 0, .int .i64 0, .int .i64 0, .int .i64 0] := by rw [hW5]; exact t17
  have KC5 : Blk W5 w.heap.size 23 #[.int .i64 s, .int .i64 n, .int .i64 b, .int .i64 sl, .int .i64 t, .int .i64 ce, .int .i64 ma, .int .i64 st, .int .i64 ch] := by rw [hW5]; exact ((((KC1.far n1 _).far n1 _).far n1 _).far n1 _)
  have KZ5 : Blk W5 (w.heap.size + 1) 26 ZZ := by rw [hW5]; exact ((((KZ1.far n2 _).far n2 _).far n2 _).far n2 _)
  have lw2 : w.heap.size ≤ w2.heap.size := by omega
  have hbW5 : Below w.heap.size w W5 := by rw [hW5]; exact ((((hbW1.setCell lw2 _).setCell lw2 _).setCell lw2 _).setCell lw2 _)
  have HW5 := Lib.hid hW5
  clear hW5 t14 t15 t16 t17
  go_upto_region 10 with (fail)
  rw [← HW5.out]
  clear c0 c1 c2 c3 c4 c5 c6 c7 c8 l13 l14 l15 l16 l17 lfz KL1 KC1 KZ1 hbW1
  have lC5 := KC5.lt
  have lL5 := KL5.lt
  have y0 : ∀ y : After W5, y.w.cell? ⟨w.heap.size, 0, none⟩ = some (.int .i64 s) := fun y => (y.cell lC5).trans (KC5.cell 0)
  have y17 : ∀ y : After W5, y.w.cell? ⟨w2.heap.size, 17, none⟩ = some (.int .i64 v17) := fun y => (y.cell lL5).trans (KL5.cell 17)
  have m1 : IntKind.i64.wrap (s * c) = p3 := by rw [HP3.out, IntKind.wrap_i64]; omega
  have m2 : IntKind.i64.wrap (v17 + p3) = v18 := by rw [E18.out, IntKind.wrap_i64]; omega
  refine wp_region_after_tail 9 (by kernel_rfl) (by kernel_rfl) ?_
  simp only [List.take_succ_cons, List.take_zero, List.drop_succ_cons, List.drop_zero]
  repeat (go_big_quiet_step (first
    | (go_at_call 28; exact calls_after ((HRM.out _).mono fun e w' ⟨h1, h2⟩ => ⟨h1, h2 ▸ Below.refl _ _⟩))))
  refine wpQuiet_nil ?_
  rintro _ ⟨y, rfl⟩
  have KL5' := KL5.later y.bel
  have KC5' := KC5.later y.bel
  have KZ5' := KZ5.later y.bel
  have hbY := hbW5.trans (y.bel.mono hbW5.size)
  clear y0 y17 m1 m2
  have k18 : y.w.cell? ⟨w2.heap.size, 18, none⟩ = some (.int .i64 0) := KL5'.cell 18
  have kfz := KL5'.free 18
  obtain ⟨W6, hW6⟩ : ∃ W, W = y.w.setCell ⟨w2.heap.size, 18, none⟩ (.int .i64 v18) := ⟨_, rfl⟩
  have KL6 : Blk W6 w2.heap.size 26 #[.int .i64 s, .int .i64 n, .int .i64 b, .int .i64 sl, .int .i64 t, .int .i64 ce, .int .i64 ma, .int .i64 st, .int .i64 ch, .int .i64 0, .int .i64 1, .int .i64 2, .int .i64 3, .int .i64 4, .int .i64 v14, .int .i64 v15, .int .i64 v16, .int .i64 v17, .int .i64 v18, .int .i64 0, .int .i64 0, .int .i64 0, .int .i64 0, .int .i64 0, .int .i64 0] := by rw [hW6]; exact KL5'.put 18 _
  have KC6 : Blk W6 w.heap.size 23 #[.int .i64 s, .int .i64 n, .int .i64 b, .int .i64 sl, .int .i64 t, .int .i64 ce, .int .i64 ma, .int .i64 st, .int .i64 ch] := by rw [hW6]; exact KC5'.far n1 _
  have KZ6 : Blk W6 (w.heap.size + 1) 26 ZZ := by rw [hW6]; exact KZ5'.far n2 _
  have hbW6 : Below w.heap.size w W6 := by rw [hW6]; exact hbY.setCell lw2 _
  have HW6 := Lib.hid hW6
  clear hW6 KL5' KC5' KZ5' KL5 KC5 KZ5 hbW5 hbY lC5 lL5
  have e19 := E19.out
  have e20 := E20.out
  have e21 := E21.out
  have e22 := E22.out
  have e23 := E23.out
  have e24 := E24.out
  have g1 : wrap64 (ma * (b + 2)) = p1 := by rw [HP1.out]; unfold wrap64; omega
  have g2 : wrap64 (st * (sl + 1)) = p2 := by rw [HP2.out]; unfold wrap64; omega
  go_upto_region 11 with (fail)
  rw [← HW6.out]
  have c0 : W6.cell? ⟨w.heap.size, 0, none⟩ = some (.int .i64 s) := KC6.cell 0
  have c1 : W6.cell? ⟨w.heap.size, 1, none⟩ = some (.int .i64 n) := KC6.cell 1
  have c2 : W6.cell? ⟨w.heap.size, 2, none⟩ = some (.int .i64 b) := KC6.cell 2
  have c3 : W6.cell? ⟨w.heap.size, 3, none⟩ = some (.int .i64 sl) := KC6.cell 3
  have c4 : W6.cell? ⟨w.heap.size, 4, none⟩ = some (.int .i64 t) := KC6.cell 4
  have c5 : W6.cell? ⟨w.heap.size, 5, none⟩ = some (.int .i64 ce) := KC6.cell 5
  have c6 : W6.cell? ⟨w.heap.size, 6, none⟩ = some (.int .i64 ma) := KC6.cell 6
  have c7 : W6.cell? ⟨w.heap.size, 7, none⟩ = some (.int .i64 st) := KC6.cell 7
  have c8 : W6.cell? ⟨w.heap.size, 8, none⟩ = some (.int .i64 ch) := KC6.cell 8
  have l18 : W6.cell? ⟨w2.heap.size, 18, none⟩ = some (.int .i64 v18) := KL6.cell 18
  have l19 : W6.cell? ⟨w2.heap.size, 19, none⟩ = some (.int .i64 0) := KL6.cell 19
  have l20 : W6.cell? ⟨w2.heap.size, 20, none⟩ = some (.int .i64 0) := KL6.cell 20
  have l21 : W6.cell? ⟨w2.heap.size, 21, none⟩ = some (.int .i64 0) := KL6.cell 21
  have l22 : W6.cell? ⟨w2.heap.size, 22, none⟩ = some (.int .i64 0) := KL6.cell 22
  have l23 : W6.cell? ⟨w2.heap.size, 23, none⟩ = some (.int .i64 0) := KL6.cell 23
  have l24 : W6.cell? ⟨w2.heap.size, 24, none⟩ = some (.int .i64 0) := KL6.cell 24
  have lfz : ∀ o, W6.frozen? ⟨w2.heap.size, o, none⟩ = false := fun o => KL6.free o
  obtain ⟨W7, hW7⟩ : ∃ W, W = (((((W6.setCell ⟨w2.heap.size, 19, none⟩ (.int .i64 v19)).setCell ⟨w2.heap.size, 20, none⟩ (.int .i64 v20)).setCell ⟨w2.heap.size, 21, none⟩ (.int .i64 v21)).setCell ⟨w2.heap.size, 22, none⟩ (.int .i64 v22)).setCell ⟨w2.heap.size, 23, none⟩ (.int .i64 v23)).setCell ⟨w2.heap.size, 24, none⟩ (.int .i64 v24) := ⟨_, rfl⟩
  have t19 : Blk _ w2.heap.size 26 #[.int .i64 s, .int .i64 n, .int .i64 b, .int .i64 sl, .int .i64 t, .int .i64 ce, .int .i64 ma, .int .i64 st, .int .i64 ch, .int .i64 0, .int .i64 1, .int .i64 2, .int .i64 3, .int .i64 4, .int .i64 v14, .int .i64 v15, .int .i64 v16, .int .i64 v17, .int .i64 v18, .int .i64 v19, .int .i64 0, .int .i64 0, .int .i64 0, .int .i64 0, .int .i64 0] := KL6.put 19 (.int .i64 v19)
  have t20 : Blk _ w2.heap.size 26 #[.int .i64 s, .int .i64 n, .int .i64 b, .int .i64 sl, .int .i64 t, .int .i64 ce, .int .i64 ma, .int .i64 st, .int .i64 ch, .int .i64 0, .int .i64 1, .int .i64 2, .int .i64 3, .int .i64 4, .int .i64 v14, .int .i64 v15, .int .i64 v16, .int .i64 v17, .int .i64 v18, .int .i64 v19, .int .i64 v20, .int .i64 0, .int .i64 0, .int .i64 0, .int .i64 0] := t19.put 20 (.int .i64 v20)
  have t21 : Blk _ w2.heap.size 26 #[.int .i64 s, .int .i64 n, .int .i64 b, .int .i64 sl, .int .i64 t, .int .i64 ce, .int .i64 ma, .int .i64 st, .int .i64 ch, .int .i64 0, .int .i64 1, .int .i64 2, .int .i64 3, .int .i64 4, .int .i64 v14, .int .i64 v15, .int .i64 v16, .int .i64 v17, .int .i64 v18, .int .i64 v19, .int .i64 v20, .int .i64 v21, .int .i64 0, .int .i64 0, .int .i64 0] := t20.put 21 (.int .i64 v21)
  have t22 : Blk _ w2.heap.size 26 #[.int .i64 s, .int .i64 n, .int .i64 b, .int .i64 sl, .int .i64 t, .int .i64 ce, .int .i64 ma, .int .i64 st, .int .i64 ch, .int .i64 0, .int .i64 1, .int .i64 2, .int .i64 3, .int .i64 4, .int .i64 v14, .int .i64 v15, .int .i64 v16, .int .i64 v17, .int .i64 v18, .int .i64 v19, .int .i64 v20, .int .i64 v21, .int .i64 v22, .int .i64 0, .int .i64 0] := t21.put 22 (.int .i64 v22)
  have t23 : Blk _ w2.heap.size 26 #[.int .i64 s, .int .i64 n, .int .i64 b, .int .i64 sl, .int .i64 t, .int .i64 ce, .int .i64 ma, .int .i64 st, .int .i64 ch, .int .i64 0, .int .i64 1, .int .i64 2, .int .i64 3, .int .i64 4, .int .i64 v14, .int .i64 v15, .int .i64 v16, .int .i64 v17, .int .i64 v18, .int .i64 v19, .int .i64 v20, .int .i64 v21, .int .i64 v22, .int .i64 v23, .int .i64 0] := t22.put 23 (.int .i64 v23)
  have t24 : Blk _ w2.heap.size 26 #[.int .i64 s, .int .i64 n, .int .i64 b, .int .i64 sl, .int .i64 t, .int .i64 ce, .int .i64 ma, .int .i64 st, .int .i64 ch, .int .i64 0, .int .i64 1, .int .i64 2, .int .i64 3, .int .i64 4, .int .i64 v14, .int .i64 v15, .int .i64 v16, .int .i64 v17, .int .i64 v18, .int .i64 v19, .int .i64 v20, .int .i64 v21, .int .i64 v22, .int .i64 v23, .int .i64 v24] := t23.put 24 (.int .i64 v24)
  have KL7 : Blk W7 w2.heap.size 26 #[.int .i64 s, .int .i64 n, .int .i64 b, .int .i64 sl, .int .i64 t, .int .i64 ce, .int .i64 ma, .int .i64 st, .int .i64 ch, .int .i64 0, .int .i64 1, .int .i64 2, .int .i64 3, .int .i64 4, .int .i64 v14, .int .i64 v15, .int .i64 v16, .int .i64 v17, .int .i64 v18, .int .i64 v19, .int .i64 v20, .int .i64 v21, .int .i64 v22, .int .i64 v23, .int .i64 v24] := by rw [hW7]; exact t24
  have KZ7 : Blk W7 (w.heap.size + 1) 26 ZZ := by rw [hW7]; exact ((((((KZ6.far n2 _).far n2 _).far n2 _).far n2 _).far n2 _).far n2 _)
  have hbW7 : Below w.heap.size w W7 := by rw [hW7]; exact ((((((hbW6.setCell lw2 _).setCell lw2 _).setCell lw2 _).setCell lw2 _).setCell lw2 _).setCell lw2 _)
  have HW7 := Lib.hid hW7
  clear hW7 t19 t20 t21 t22 t23 t24 KL6 KC6 KZ6 hbW6 k18 kfz
  go_upto_region 17 with (fail)
  rw [← HW7.out]
  clear c0 c1 c2 c3 c4 c5 c6 c7 c8 l18 l19 l20 l21 l22 l23 l24 lfz e19 e20 e21 e22 e23 e24 g1 g2
  obtain ⟨Q, hQ⟩ : ∃ Q : List Value, Q = (#[.int .i64 s, .int .i64 n, .int .i64 b, .int .i64 sl, .int .i64 t, .int .i64 ce, .int .i64 ma, .int .i64 st, .int .i64 ch, .int .i64 0, .int .i64 1, .int .i64 2, .int .i64 3, .int .i64 4, .int .i64 v14, .int .i64 v15, .int .i64 v16, .int .i64 v17, .int .i64 v18, .int .i64 v19, .int .i64 v20, .int .i64 v21, .int .i64 v22, .int .i64 v23, .int .i64 v24] : Array Value).toList := ⟨_, rfl⟩
  have hq25 : Q.length = 25 := by rw [hQ]; rfl
  have KLq : Blk W7 w2.heap.size 26 Q.toArray := by rw [hQ]; exact KL7
  have hra : World.rangeAt W7 w2.heap.size 0 Q := fun j v hv => by rw [Nat.zero_add, KLq.cell]; simpa using hv
  have hzs : ZZ.size = 25 := by rw [HZZ.out]; rfl
  have hth : World.there W7 (w.heap.size + 1) 0 Q.toArray.size := fun j hj => by
    rw [Nat.zero_add]
    obtain ⟨u, hu⟩ := KZ7.has j (by rw [hzs]; simp at hj; omega)
    exact ⟨by rw [hu]; rfl, KZ7.free j⟩
  have hon : Q.toArray.all (·.oneCell') = true := by rw [hQ]; simp [Value.oneCell']
  have hra2 := World.rangeAt_setCells_same _ _ _ Q (by simpa using hth)
  have hbe := hbW7.trans (Lib.below_setCells_w (Nat.le_succ w.heap.size) Q 0 _)
  have hi26 : (Try.prog.info? 26).map (·.size) = some Q.length := by rw [hq25]; exact lay25
  have hi27 : (Try.prog.info? 26).map (·.size) = some Q.toArray.size := by rw [List.size_toArray]; exact hi26
  have Hra := Lib.hid hra
  have Hth := Lib.hid hth
  have Hon2 := Lib.hid hon
  have Hra2 := Lib.hid hra2
  have Hbe := Lib.hid hbe
  have Hi6 := Lib.hid hi26
  have Hj7 := Lib.hid hi27
  have HQ := Lib.hid hQ
  clear hra hth hon hra2 hbe hi26 hi27 hQ hq25 hzs KL7 KZ7 KLq hbW7
  go_wp2_with (first
    | (with_reducible (show wpList _ _ _ ({ dst := _, op := Op.load 26 _, type := _, pos := _, after := _, guard := none } :: _) _ _); refine wpList_load_mid rfl 26 _ rfl w2.heap.size 0 rfl Q _ Hra.out layFields rfl Hi6.out ?_)
    | (with_reducible (show wpList _ _ _ ({ dst := none, op := Op.store 26 _ _, type := _, pos := _, after := _, guard := none } :: _) _ _); refine wpList_store_mid rfl 26 _ _ rfl (w.heap.size + 1) 0 Q.toArray rfl rfl Hth.out Hj7.out Hon2.out ?_))
  obtain ⟨Wf, hWf⟩ : ∃ W, W = World.setCells W7 (w.heap.size + 1) 0 Q := ⟨_, rfl⟩
  have HRf : Wf.rangeAt (w.heap.size + 1) 0 Q := by rw [hWf]; exact Hra2.out
  have HBf2 : Below w.heap.size w Wf := by rw [hWf]; exact Hbe.out
  simp only [← hWf]
  refine bodyPost_ret (v := .tuple #[.agg Q.toArray, .int .i64 0]) ?_ rfl ?_
  · exact results_cell_mid Try.results11 _ _ (w.heap.size + 1) Q _ rfl rfl HRf layFields rfl Hi6.out
  · exact ⟨by rw [HF.out, HQ.out], HBf2⟩
end Go.Proofs.Ytbaeckehchpfaaa
