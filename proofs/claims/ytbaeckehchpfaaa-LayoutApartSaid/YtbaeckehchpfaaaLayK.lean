/-
  LAYOUT: Right.
-/
import Derived.Test.YtbaeckehchpfaaaRows
import Derived.ProofKit
import Derived.Test.YtbaeckehchpfaaaLayJ
namespace Go.Proofs.Ytbaeckehchpfaaa
open Go.ChangeShapes Go.WideShapes Go.ChangeAt Go.RowKit

theorem wpList_load_mid_g {P : Program} {ops : Array Oper} {rest : List Oper} {op : Oper} {a : Act} {w : World} {Q : Exit → Act → World → Prop} (hw : Region.wanted op (yielded ops a.tmps) = true) (ty : TypeId) (x : Operand) (ho : op.op = .load ty x)
    (b o : Nat) (hx : a.eval x = .pointer (some ⟨b, o, none⟩)) (cs : List Value) (d : TypeDesc) (hc : w.rangeAt b o cs)
    (hu : P.underlying ty = some d) (hd : d.isRow = true) (hi : (P.info? ty).map (·.size) = some cs.length)
    (h : wpList P ops Q rest (a.put op.dst (.agg cs.toArray)) w) : wpList P ops Q (op :: rest) a w :=
  wpList_step fun K hK => by rw [if_pos hw]; exact wp_load_mid ty x ho b o hx cs d hc hu hd hi (hK _ _ h)

set_option maxRecDepth 100000 in
set_option maxHeartbeats 8000000 in
theorem right_any (X Y : Array Value) (s n b sl t ce ma st ch err : Int) (q : Bool) (hX : IntCells X 25) (hY : IntCells Y 25) (h0 : X[0]? = some (.int .i64 s)) (h1 : X[1]? = some (.int .i64 n)) (h2 : X[2]? = some (.int .i64 b)) (h3 : X[3]? = some (.int .i64 sl)) (h4 : X[4]? = some (.int .i64 t)) (h5 : X[5]? = some (.int .i64 ce)) (h6 : X[6]? = some (.int .i64 ma)) (h7 : X[7]? = some (.int .i64 st)) (h8 : X[8]? = some (.int .i64 ch))
    (hOf : ∀ w, Calls Try.prog 10 #[.agg (confC s n b sl t ce ma st ch)] w fun e w' => e = .returned (.tuple #[.agg Y, .int .i64 err]) ∧ Below w.heap.size w w')
    (herr : (err = 0 ∧ ∀ w, (Op.equalIn 10000 26 (.agg X) (.agg Y)).run Try.prog w = .ok q w) ∨ (err = 1 ∧ q = false)) (w : World) :
    Calls Try.prog 12 #[.agg X] w fun e w' => e = .returned (.bool q) ∧ Below w.heap.size w w' := by
  have hbk : Blk (w.alloc (Obj.cells X 26)) w.heap.size 26 X := Blk.made w _ _
  have hb : Below w.heap.size w (w.alloc (Obj.cells X 26)) := (Below.refl _ w).alloc (Nat.le_refl _) _
  have c0 : (w.alloc (Obj.cells X 26)).cell? ⟨w.heap.size, 0, none⟩ = some (.int .i64 s) := (hbk.cell 0).trans h0
  have c1 : (w.alloc (Obj.cells X 26)).cell? ⟨w.heap.size, 1, none⟩ = some (.int .i64 n) := (hbk.cell 1).trans h1
  have c2 : (w.alloc (Obj.cells X 26)).cell? ⟨w.heap.size, 2, none⟩ = some (.int .i64 b) := (hbk.cell 2).trans h2
  have c3 : (w.alloc (Obj.cells X 26)).cell? ⟨w.heap.size, 3, none⟩ = some (.int .i64 sl) := (hbk.cell 3).trans h3
  have c4 : (w.alloc (Obj.cells X 26)).cell? ⟨w.heap.size, 4, none⟩ = some (.int .i64 t) := (hbk.cell 4).trans h4
  have c5 : (w.alloc (Obj.cells X 26)).cell? ⟨w.heap.size, 5, none⟩ = some (.int .i64 ce) := (hbk.cell 5).trans h5
  have c6 : (w.alloc (Obj.cells X 26)).cell? ⟨w.heap.size, 6, none⟩ = some (.int .i64 ma) := (hbk.cell 6).trans h6
  have c7 : (w.alloc (Obj.cells X 26)).cell? ⟨w.heap.size, 7, none⟩ = some (.int .i64 st) := (hbk.cell 7).trans h7
  have c8 : (w.alloc (Obj.cells X 26)).cell? ⟨w.heap.size, 8, none⟩ = some (.int .i64 ch) := (hbk.cell 8).trans h8
  have hi2 : Hid ((Try.prog.info? 26).map (·.size) = some X.toList.length) := Lib.hid (by rw [Array.length_toList, hX.1]; exact lay25)
  have hj1 : Hid ((Try.prog.info? 26).map (·.size) = some Y.size) := Lib.hid (by rw [hY.1]; exact lay25)
  have hj2 : Hid ((Try.prog.info? 26).map (·.size) = some Y.toList.length) := Lib.hid (by rw [Array.length_toList, hY.1]; exact lay25)
  have hOn : Hid (Y.all (·.oneCell') = true) := Lib.hid (by
    rw [Array.all_eq_true_iff_forall_mem]
    intro v hv
    obtain ⟨j, hj, he⟩ := Array.mem_iff_getElem.1 hv
    obtain ⟨a, ha⟩ := hY.2 j (by rw [← hY.1]; exact hj)
    rw [Array.getElem?_eq_getElem hj] at ha
    injection ha with ha
    rw [← he, ha]; rfl)
  have HO := Lib.hid hOf
  unfold confC at HO
  have HK := Lib.hid hbk
  have HB := Lib.hid hb
  have HY := Lib.hid hY.1
  clear hbk hb hOf hX hY h0 h1 h2 h3 h4 h5 h6 h7 h8
  rcases herr with ⟨rfl, heq⟩ | ⟨rfl, rfl⟩
  all_goals
    go_enter Try.func12, Try.ntmps12
    go_wp2_with fail
    refine (HO.out _).mono ?_
    rintro e w2 ⟨rfl, hb2⟩
    have hb02 := HB.out.trans (hb2.mono HB.out.size)
    have HK2 := HK.out.later hb2
    have HN := Blk.made w2 26 #[.int .i64 0, .int .i64 0, .int .i64 0, .int .i64 0, .int .i64 0, .int .i64 0, .int .i64 0, .int .i64 0, .int .i64 0, .int .i64 0, .int .i64 0, .int .i64 0, .int .i64 0, .int .i64 0, .int .i64 0, .int .i64 0, .int .i64 0, .int .i64 0, .int .i64 0, .int .i64 0, .int .i64 0, .int .i64 0, .int .i64 0, .int .i64 0, .int .i64 0]
    obtain ⟨W, hW⟩ : ∃ W, W = (w2.alloc (Obj.cells #[.int .i64 0, .int .i64 0, .int .i64 0, .int .i64 0, .int .i64 0, .int .i64 0, .int .i64 0, .int .i64 0, .int .i64 0, .int .i64 0, .int .i64 0, .int .i64 0, .int .i64 0, .int .i64 0, .int .i64 0, .int .i64 0, .int .i64 0, .int .i64 0, .int .i64 0, .int .i64 0, .int .i64 0, .int .i64 0, .int .i64 0, .int .i64 0, .int .i64 0] 26)).setCells w2.heap.size 0 Y.toList := ⟨_, rfl⟩
    have HA : Blk W w2.heap.size 26 Y := by rw [hW]; exact HN.put_whole Y.toList (by rw [Array.length_toList, HY.out]; rfl)
    have HX3 : Blk W w.heap.size 26 X := by
      rw [hW]
      have := HK2.lt
      exact Blk.farAll (w := w) (by omega) _ _ (HK2.alloc _)
    have hbW : Below w.heap.size w W := by rw [hW]; exact (hb02.alloc hb02.size _).trans (Lib.below_setCells_w hb02.size _ _ _)
    have hth1 : Hid ((w2.alloc (Obj.cells #[.int .i64 0, .int .i64 0, .int .i64 0, .int .i64 0, .int .i64 0, .int .i64 0, .int .i64 0, .int .i64 0, .int .i64 0, .int .i64 0, .int .i64 0, .int .i64 0, .int .i64 0, .int .i64 0, .int .i64 0, .int .i64 0, .int .i64 0, .int .i64 0, .int .i64 0, .int .i64 0, .int .i64 0, .int .i64 0, .int .i64 0, .int .i64 0, .int .i64 0] 26)).there w2.heap.size 0 Y.size) := Lib.hid fun j hj => by
      rw [Nat.zero_add]
      obtain ⟨u, hu⟩ := HN.has j (by rw [HY.out] at hj; exact hj)
      exact ⟨by rw [hu]; rfl, HN.free j⟩
    have hraY : Hid (World.rangeAt W w2.heap.size 0 Y.toList) := Lib.hid fun j v hv => by
      rw [Nat.zero_add, HA.cell]; simpa using hv
    have hraX : Hid (World.rangeAt W w.heap.size 0 X.toList) := Lib.hid fun j v hv => by
      rw [Nat.zero_add, HX3.cell]; simpa using hv
    have HW := Lib.hid hW
    have HBW := Lib.hid hbW
    have hgd := layGuard
    clear hW hbW HN HA HX3 HK2
    go_wp2_with (first
      | (with_reducible (show wpList _ _ _ ({ dst := some 14, op := Op.load 26 _, type := _, pos := _, after := _, guard := some _ } :: _) _ _); refine wpList_load_mid_g rfl 26 _ rfl w.heap.size 0 rfl X.toList _ hraX.out layFields rfl hi2.out ?_)
      | (with_reducible (show wpList _ _ _ ({ dst := some 15, op := Op.load 26 _, type := _, pos := _, after := _, guard := some _ } :: _) _ _); refine wpList_load_mid_g rfl 26 _ rfl w2.heap.size 0 rfl Y.toList _ hraY.out layFields rfl hj2.out ?_)
      | (with_reducible (show wpList _ _ _ ({ dst := none, op := Op.store 26 _ _, type := _, pos := _, after := _, guard := none } :: _) _ _); refine wpList_store_mid rfl 26 _ _ rfl w2.heap.size 0 Y rfl rfl hth1.out hj1.out hOn.out ?_; rw [← HW.out]))
    go_ret
    exact ⟨rfl, HBW.out⟩

theorem conf_parts (s n b sl t ce ma st ch : Int) : (layV s n b sl t ce ma st ch)[0]? = some (.int .i64 s) := rfl

theorem right_lay (s n b sl t ce ma st ch : Int) (h : ConfOk s n b sl t ce ma st ch) (w : World) :
    Calls Try.prog 12 #[.agg (layV s n b sl t ce ma st ch)] w fun e w' => e = .returned (.bool true) ∧ Below w.heap.size w w' :=
  right_any _ _ s n b sl t ce ma st ch 0 true (layC_cells ..) (layC_cells ..) rfl rfl rfl rfl rfl rfl rfl rfl rfl (of_ok s n b sl t ce ma st ch h) (.inl ⟨rfl, lay_same _ (layC_cells ..)⟩) w
end Go.Proofs.Ytbaeckehchpfaaa
