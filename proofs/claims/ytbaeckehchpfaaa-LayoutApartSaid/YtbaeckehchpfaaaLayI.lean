/-
  LAYOUT: Of, where the conf may not be.
-/
import Derived.Test.YtbaeckehchpfaaaRows
import Derived.ProofKit
import Derived.Test.YtbaeckehchpfaaaLayB
import Derived.Test.YtbaeckehchpfaaaLayH
namespace Go.Proofs.Ytbaeckehchpfaaa
open Go.ChangeShapes Go.WideShapes Go.ChangeAt Go.RowKit

/-- the layout of nothing -/
def zeroL : Array Value := #[.int .i64 0, .int .i64 0, .int .i64 0, .int .i64 0, .int .i64 0, .int .i64 0, .int .i64 0, .int .i64 0, .int .i64 0, .int .i64 0, .int .i64 0, .int .i64 0, .int .i64 0, .int .i64 0, .int .i64 0, .int .i64 0, .int .i64 0, .int .i64 0, .int .i64 0, .int .i64 0, .int .i64 0, .int .i64 0, .int .i64 0, .int .i64 0, .int .i64 0]

structure ConfOk (s n b sl t ce ma st ch : Int) : Prop where
  may : MayOk s b sl t ce ma st ch
  nodes : ma + ch ≤ n ∧ n ≤ 1000

set_option maxRecDepth 100000 in
set_option maxHeartbeats 20000000 in
theorem of_no1 (s n b sl t ce ma st ch : Int) (h : ¬ MayOk s b sl t ce ma st ch) (w : World) :
    Calls Try.prog 10 #[.agg (confC s n b sl t ce ma st ch)] w fun e w' => e = .returned (.tuple #[.agg zeroL, .int .i64 1]) ∧ Below w.heap.size w w' := by
  obtain ⟨ZZ, hZZ⟩ : ∃ ZZ : Array Value, ZZ = #[.int .i64 0, .int .i64 0, .int .i64 0, .int .i64 0, .int .i64 0, .int .i64 0, .int .i64 0, .int .i64 0, .int .i64 0, .int .i64 0, .int .i64 0, .int .i64 0, .int .i64 0, .int .i64 0, .int .i64 0, .int .i64 0, .int .i64 0, .int .i64 0, .int .i64 0, .int .i64 0, .int .i64 0, .int .i64 0, .int .i64 0, .int .i64 0, .int .i64 0] := ⟨_, rfl⟩
  have HZZ := Lib.hid hZZ
  have Hj : Hid ((Try.prog.info? 26).map (·.size) = some ZZ.size) := Lib.hid (by rw [hZZ]; exact lay25)
  have Hi : Hid ((Try.prog.info? 26).map (·.size) = some ZZ.toList.length) := Lib.hid (by rw [hZZ]; exact lay25)
  have Hon : Hid (ZZ.all (·.oneCell') = true) := Lib.hid (by rw [hZZ]; simp [Value.oneCell'])
  have HNO := Lib.hid h
  clear hZZ h
  unfold confC
  go_enter Try.func10, Try.ntmps10
  go_wp2_with fail
  obtain ⟨V, hV⟩ : ∃ V, V = (w.alloc (Obj.cells #[.int .i64 s, .int .i64 n, .int .i64 b, .int .i64 sl, .int .i64 t, .int .i64 ce, .int .i64 ma, .int .i64 st, .int .i64 ch] 23)).alloc (Obj.cells #[.int .i64 0, .int .i64 0, .int .i64 0, .int .i64 0, .int .i64 0, .int .i64 0, .int .i64 0, .int .i64 0, .int .i64 0, .int .i64 0, .int .i64 0, .int .i64 0, .int .i64 0, .int .i64 0, .int .i64 0, .int .i64 0, .int .i64 0, .int .i64 0, .int .i64 0, .int .i64 0, .int .i64 0, .int .i64 0, .int .i64 0, .int .i64 0, .int .i64 0] 26) := ⟨_, rfl⟩
  rw [← hV]
  have HC0 : Blk V w.heap.size 23 #[.int .i64 s, .int .i64 n, .int .i64 b, .int .i64 sl, .int .i64 t, .int .i64 ce, .int .i64 ma, .int .i64 st, .int .i64 ch] := by rw [hV]; exact (Blk.made w _ _).alloc _
  have HZ0 : Blk V (w.heap.size + 1) 26 ZZ := by
    rw [hV, HZZ.out]
    have := Blk.made (w.alloc (Obj.cells #[.int .i64 s, .int .i64 n, .int .i64 b, .int .i64 sl, .int .i64 t, .int .i64 ce, .int .i64 ma, .int .i64 st, .int .i64 ch] 23)) 26 #[.int .i64 0, .int .i64 0, .int .i64 0, .int .i64 0, .int .i64 0, .int .i64 0, .int .i64 0, .int .i64 0, .int .i64 0, .int .i64 0, .int .i64 0, .int .i64 0, .int .i64 0, .int .i64 0, .int .i64 0, .int .i64 0, .int .i64 0, .int .i64 0, .int .i64 0, .int .i64 0, .int .i64 0, .int .i64 0, .int .i64 0, .int .i64 0, .int .i64 0]
    simpa [go_sem] using this
  have hbV : Below w.heap.size w V := by rw [hV]; exact ((Below.refl _ w).alloc (Nat.le_refl _) _).alloc (by simp [go_sem]) _
  clear hV
  refine (may_no s n b sl t ce ma st ch HNO.out V).mono ?_
  rintro e w2 ⟨rfl, hb2⟩
  have hb02 := hbV.trans (hb2.mono hbV.size)
  have HC2 := HC0.later hb2
  have HZ2 := HZ0.later hb2
  have c1 : w2.cell? ⟨w.heap.size, 1, none⟩ = some (.int .i64 n) := HC2.cell 1
  have c6 : w2.cell? ⟨w.heap.size, 6, none⟩ = some (.int .i64 ma) := HC2.cell 6
  have c8 : w2.cell? ⟨w.heap.size, 8, none⟩ = some (.int .i64 ch) := HC2.cell 8
  have hth : World.there w2 (w.heap.size + 1) 0 ZZ.size := fun j hj => by
    rw [Nat.zero_add]
    obtain ⟨u, hu⟩ := HZ2.has j hj
    exact ⟨by rw [hu]; rfl, HZ2.free j⟩
  have hra2 := World.rangeAt_setCells_same _ _ _ ZZ.toList (by simpa using hth)
  have hbe := hb02.trans (Lib.below_setCells_w (Nat.le_succ w.heap.size) ZZ.toList 0 _)
  have Hth := Lib.hid hth
  have Hra2 := Lib.hid hra2
  have Hbe := Lib.hid hbe
  clear HC0 HZ0 HC2 HZ2 hth hra2 hbe hbV hb2 hb02
  go_wp2_with ((with_reducible (show wpList _ _ _ ({ dst := none, op := Op.store 26 _ _, type := _, pos := _, after := _, guard := none } :: _) _ _)); rw [← HZZ.out]; refine wpList_store_mid rfl 26 _ _ rfl (w.heap.size + 1) 0 ZZ rfl rfl Hth.out Hj.out Hon.out ?_)
  refine bodyPost_ret (v := .tuple #[.agg ZZ.toList.toArray, .int .i64 1]) ?_ rfl ?_
  · exact results_cell_mid Try.results10 _ _ (w.heap.size + 1) ZZ.toList _ rfl rfl Hra2.out layFields rfl Hi.out
  · exact ⟨by rw [Array.toArray_toList, HZZ.out]; rfl, Hbe.out⟩

set_option maxRecDepth 100000 in
set_option maxHeartbeats 20000000 in
theorem of_no2 (s n b sl t ce ma st ch : Int) (h : MayOk s b sl t ce ma st ch) (hn : n < ma + ch ∨ 1000 < n) (w : World) :
    Calls Try.prog 10 #[.agg (confC s n b sl t ce ma st ch)] w fun e w' => e = .returned (.tuple #[.agg zeroL, .int .i64 1]) ∧ Below w.heap.size w w' := by
  obtain ⟨ZZ, hZZ⟩ : ∃ ZZ : Array Value, ZZ = #[.int .i64 0, .int .i64 0, .int .i64 0, .int .i64 0, .int .i64 0, .int .i64 0, .int .i64 0, .int .i64 0, .int .i64 0, .int .i64 0, .int .i64 0, .int .i64 0, .int .i64 0, .int .i64 0, .int .i64 0, .int .i64 0, .int .i64 0, .int .i64 0, .int .i64 0, .int .i64 0, .int .i64 0, .int .i64 0, .int .i64 0, .int .i64 0, .int .i64 0] := ⟨_, rfl⟩
  have HZZ := Lib.hid hZZ
  have Hj : Hid ((Try.prog.info? 26).map (·.size) = some ZZ.size) := Lib.hid (by rw [hZZ]; exact lay25)
  have Hi : Hid ((Try.prog.info? 26).map (·.size) = some ZZ.toList.length) := Lib.hid (by rw [hZZ]; exact lay25)
  have Hon : Hid (ZZ.all (·.oneCell') = true) := Lib.hid (by rw [hZZ]; simp [Value.oneCell'])
  have HM := Lib.hid h
  have hma := h.hma
  have hch := h.hch
  clear hZZ h
  unfold confC
  rcases (show decide (n < ma + ch) = true ∨ (decide (n < ma + ch) = false ∧ decide (1000 < n) = true) by simp; omega) with d1 | ⟨d1, d2⟩
  all_goals
    go_enter Try.func10, Try.ntmps10
    go_wp2_with fail
    obtain ⟨V, hV⟩ : ∃ V, V = (w.alloc (Obj.cells #[.int .i64 s, .int .i64 n, .int .i64 b, .int .i64 sl, .int .i64 t, .int .i64 ce, .int .i64 ma, .int .i64 st, .int .i64 ch] 23)).alloc (Obj.cells #[.int .i64 0, .int .i64 0, .int .i64 0, .int .i64 0, .int .i64 0, .int .i64 0, .int .i64 0, .int .i64 0, .int .i64 0, .int .i64 0, .int .i64 0, .int .i64 0, .int .i64 0, .int .i64 0, .int .i64 0, .int .i64 0, .int .i64 0, .int .i64 0, .int .i64 0, .int .i64 0, .int .i64 0, .int .i64 0, .int .i64 0, .int .i64 0, .int .i64 0] 26) := ⟨_, rfl⟩
    rw [← hV]
    have HC0 : Blk V w.heap.size 23 #[.int .i64 s, .int .i64 n, .int .i64 b, .int .i64 sl, .int .i64 t, .int .i64 ce, .int .i64 ma, .int .i64 st, .int .i64 ch] := by rw [hV]; exact (Blk.made w _ _).alloc _
    have HZ0 : Blk V (w.heap.size + 1) 26 ZZ := by
      rw [hV, HZZ.out]
      have := Blk.made (w.alloc (Obj.cells #[.int .i64 s, .int .i64 n, .int .i64 b, .int .i64 sl, .int .i64 t, .int .i64 ce, .int .i64 ma, .int .i64 st, .int .i64 ch] 23)) 26 #[.int .i64 0, .int .i64 0, .int .i64 0, .int .i64 0, .int .i64 0, .int .i64 0, .int .i64 0, .int .i64 0, .int .i64 0, .int .i64 0, .int .i64 0, .int .i64 0, .int .i64 0, .int .i64 0, .int .i64 0, .int .i64 0, .int .i64 0, .int .i64 0, .int .i64 0, .int .i64 0, .int .i64 0, .int .i64 0, .int .i64 0, .int .i64 0, .int .i64 0]
      simpa [go_sem] using this
    have hbV : Below w.heap.size w V := by rw [hV]; exact ((Below.refl _ w).alloc (Nat.le_refl _) _).alloc (by simp [go_sem]) _
    clear hV
    refine (may_yes s n b sl t ce ma st ch HM.out V).mono ?_
    rintro e w2 ⟨rfl, hb2⟩
    have hb02 := hbV.trans (hb2.mono hbV.size)
    have HC2 := HC0.later hb2
    have HZ2 := HZ0.later hb2
    have c1 : w2.cell? ⟨w.heap.size, 1, none⟩ = some (.int .i64 n) := HC2.cell 1
    have c6 : w2.cell? ⟨w.heap.size, 6, none⟩ = some (.int .i64 ma) := HC2.cell 6
    have c8 : w2.cell? ⟨w.heap.size, 8, none⟩ = some (.int .i64 ch) := HC2.cell 8
    have hth : World.there w2 (w.heap.size + 1) 0 ZZ.size := fun j hj => by
      rw [Nat.zero_add]
      obtain ⟨u, hu⟩ := HZ2.has j hj
      exact ⟨by rw [hu]; rfl, HZ2.free j⟩
    have hra2 := World.rangeAt_setCells_same _ _ _ ZZ.toList (by simpa using hth)
    have hbe := hb02.trans (Lib.below_setCells_w (Nat.le_succ w.heap.size) ZZ.toList 0 _)
    have Hth := Lib.hid hth
    have Hra2 := Lib.hid hra2
    have Hbe := Lib.hid hbe
    clear HC0 HZ0 HC2 HZ2 hth hra2 hbe hbV hb2 hb02
    go_wp2_with ((with_reducible (show wpList _ _ _ ({ dst := none, op := Op.store 26 _ _, type := _, pos := _, after := _, guard := none } :: _) _ _)); rw [← HZZ.out]; refine wpList_store_mid rfl 26 _ _ rfl (w.heap.size + 1) 0 ZZ rfl rfl Hth.out Hj.out Hon.out ?_)
    refine bodyPost_ret (v := .tuple #[.agg ZZ.toList.toArray, .int .i64 1]) ?_ rfl ?_
    · exact results_cell_mid Try.results10 _ _ (w.heap.size + 1) ZZ.toList _ rfl rfl Hra2.out layFields rfl Hi.out
    · exact ⟨by rw [Array.toArray_toList, HZZ.out]; rfl, Hbe.out⟩

theorem of_no (s n b sl t ce ma st ch : Int) (h : ¬ ConfOk s n b sl t ce ma st ch) (w : World) :
    Calls Try.prog 10 #[.agg (confC s n b sl t ce ma st ch)] w fun e w' => e = .returned (.tuple #[.agg zeroL, .int .i64 1]) ∧ Below w.heap.size w w' := by
  by_cases hm : MayOk s b sl t ce ma st ch
  · exact of_no2 s n b sl t ce ma st ch hm (by
      refine Classical.byContradiction fun hn => h ⟨hm, by omega⟩) w
  · exact of_no1 s n b sl t ce ma st ch hm w

/-- the layout of a conf that may be -/
def layV (s n b sl t ce ma st ch : Int) : Array Value :=
  layC s n b sl t ce ma st ch (4 + s) (4 + 2 * s) (4 + 5 * s) (4 + 8 * s) (4 + 8 * s + s * cellsP (ringsP t)) (4 + 8 * s + s * cellsP (ringsP t) + 4 * t) (4 + 8 * s + s * cellsP (ringsP t) + 4 * t + ce)
    (4 + 8 * s + s * cellsP (ringsP t) + 4 * t + ce + ma * (2 + b)) (4 + 8 * s + s * cellsP (ringsP t) + 4 * t + ce + ma * (2 + b) + st * (1 + sl)) (4 + 8 * s + s * cellsP (ringsP t) + 4 * t + ce + ma * (2 + b) + st * (1 + sl) + 2 * ch) (4 + 8 * s + s * cellsP (ringsP t) + 4 * t + ce + ma * (2 + b) + st * (1 + sl) + 2 * ch + 8 * n)

theorem of_ok (s n b sl t ce ma st ch : Int) (h : ConfOk s n b sl t ce ma st ch) (w : World) :
    Calls Try.prog 10 #[.agg (confC s n b sl t ce ma st ch)] w fun e w' => e = .returned (.tuple #[.agg (layV s n b sl t ce ma st ch), .int .i64 0]) ∧ Below w.heap.size w w' :=
  of_yes s n b sl t ce ma st ch h.may h.nodes _ _ _ _ rfl rfl rfl rfl w _ _ _ _ _ _ _ _ _ _ _ rfl rfl rfl rfl rfl rfl rfl rfl rfl (by rw [Int.mul_comm]) (by rw [Int.mul_comm])
end Go.Proofs.Ytbaeckehchpfaaa
