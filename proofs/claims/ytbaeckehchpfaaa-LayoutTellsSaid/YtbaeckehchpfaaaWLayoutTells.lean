/-
  LAYOUT: the law LayoutTells.
-/
import Derived.Test.YtbaeckehchpfaaaRows
import Derived.ProofKit
import Derived.Test.YtbaeckehchpfaaaLayS
import Derived.Test.YtbaeckehchpfaaaLayO
import Derived.Test.YtbaeckehchpfaaaLayRows
import Derived.Test.YtbaeckehchpfaaaGrow
namespace Go.Proofs.Ytbaeckehchpfaaa
open Go.ChangeShapes Go.WideShapes Go.ChangeAt Go.RowKit

theorem ints_one3 (Y : Array Value) (hY : IntCells Y 25) : Y.size = 25 ∧ Y.all (·.oneCell') = true := by
  refine ⟨hY.1, ?_⟩
  rw [Array.all_eq_true_iff_forall_mem]
  intro v hv
  obtain ⟨j, hj, he⟩ := Array.mem_iff_getElem.1 hv
  obtain ⟨a, ha⟩ := hY.2 j (by rw [← hY.1]; exact hj)
  rw [Array.getElem?_eq_getElem hj] at ha
  injection ha with ha
  rw [← he, ha]; rfl

/-- a row of fourteen numbers -/
def rowM (L : Array Value) : Maker := ⟨fun v => ∃ g, v = .slice (some ⟨g, 0, none⟩) 14 14, fun v w => ∃ g, v = .slice (some ⟨g, 0, none⟩) 14 14 ∧ Blk w g 3 L, ⟨_, 0, rfl⟩,
  fun _ _ _ ⟨g, h1, h2⟩ hb => ⟨g, h1, h2.later hb⟩⟩

theorem row_make {P : Program} {w : World} {f : FuncId} {args L : Array Value} (h : Calls P f args w fun e w' => ∃ g, e = .returned (.slice (some ⟨g, 0, none⟩) 14 14) ∧ Blk w' g 3 L ∧ Below w.heap.size w w') : makeUpon P (rowM L) w (.ok (.enter f args) w) :=
  make_call (h.mono fun _ _ ⟨g, he, hc, hb⟩ => ⟨_, he, ⟨g, rfl⟩, ⟨g, rfl, hc⟩, hb⟩)

theorem row_fact {L : Array Value} {g : Nat} {w : World} (h : (rowM L).S (.slice (some ⟨g, 0, none⟩) 14 14) w) : Blk w g 3 L := by
  obtain ⟨g', e, hc⟩ := h
  injection e with e
  injection e with e
  injection e with e
  rw [e]; exact hc

set_option maxRecDepth 100000 in
set_option maxHeartbeats 20000000 in
theorem walkLayoutTells (s n bu sl t ce ma st ch a b : Int) (w : World) (_hs : -9223372036854775808 ≤ s ∧ s ≤ 9223372036854775807) (_hn : -9223372036854775808 ≤ n ∧ n ≤ 9223372036854775807) (_hbu : -9223372036854775808 ≤ bu ∧ bu ≤ 9223372036854775807) (_hsl : -9223372036854775808 ≤ sl ∧ sl ≤ 9223372036854775807) (_ht : -9223372036854775808 ≤ t ∧ t ≤ 9223372036854775807) (_hce : -9223372036854775808 ≤ ce ∧ ce ≤ 9223372036854775807) (_hma : -9223372036854775808 ≤ ma ∧ ma ≤ 9223372036854775807) (_hst : -9223372036854775808 ≤ st ∧ st ≤ 9223372036854775807) (_hch : -9223372036854775808 ≤ ch ∧ ch ≤ 9223372036854775807) (_ha : -9223372036854775808 ≤ a ∧ a ≤ 9223372036854775807) (_hb : -9223372036854775808 ≤ b ∧ b ≤ 9223372036854775807) :
    Calls Try.prog 3 #[.agg #[.int .i64 s, .int .i64 n, .int .i64 bu, .int .i64 sl, .int .i64 t, .int .i64 ce, .int .i64 ma, .int .i64 st, .int .i64 ch], .int .i64 a, .int .i64 b] w fun e w' => e = .returned (.bool true) ∧ Below w.heap.size w w' := by
  obtain ⟨V, hV⟩ : ∃ V, V = w.alloc (Obj.cells #[.int .i64 s, .int .i64 n, .int .i64 bu, .int .i64 sl, .int .i64 t, .int .i64 ce, .int .i64 ma, .int .i64 st, .int .i64 ch] 23) := ⟨_, rfl⟩
  have hbV : Below w.heap.size w V := by rw [hV]; exact (Below.refl _ w).alloc (Nat.le_refl _) _
  have KC : Blk V w.heap.size 23 #[.int .i64 s, .int .i64 n, .int .i64 bu, .int .i64 sl, .int .i64 t, .int .i64 ce, .int .i64 ma, .int .i64 st, .int .i64 ch] := by rw [hV]; exact Blk.made w _ _
  have HV := Lib.hid hV
  have HBV := Lib.hid hbV
  clear hV hbV
  by_cases hok : ConfOk s n bu sl t ce ma st ch
  case neg =>
    have HO := Lib.hid fun w => of_no s n bu sl t ce ma st ch hok w
    have HR := Lib.hid fun w => rof_no s n bu sl t ce ma st ch hok w
    have HEQ := Lib.hid (lay_same zeroL zeroL_cells)
    have hXx := ints_one3 _ zeroL_cells
    unfold confC at HO HR
    obtain ⟨X, hX⟩ : ∃ X, X = zeroL := ⟨_, rfl⟩
    rw [← hX] at HO HR HEQ hXx
    clear hX hok
    obtain ⟨x25, hxO⟩ := hXx
    have hx25 := Lib.hid x25
    have hxOn := Lib.hid hxO
    have hxi : Hid ((Try.prog.info? 26).map (·.size) = some X.size) := Lib.hid (by rw [x25]; exact lay25)
    have hxj : Hid ((Try.prog.info? 26).map (·.size) = some X.toList.length) := Lib.hid (by rw [Array.length_toList, x25]; exact lay25)
    clear x25 hxO
    go_enter Try.func3, Try.ntmps3
    go_wp2_with fail
    rw [← HV.out]
    refine (shown_any V).mono ?_
    rintro e w0 ⟨rfl, hb0⟩
    have K0 := KC.later hb0
    have c0 : w0.cell? ⟨w.heap.size, 0, none⟩ = some (.int .i64 s) := K0.cell 0
    have c1 : w0.cell? ⟨w.heap.size, 1, none⟩ = some (.int .i64 n) := K0.cell 1
    have c2 : w0.cell? ⟨w.heap.size, 2, none⟩ = some (.int .i64 bu) := K0.cell 2
    have c3 : w0.cell? ⟨w.heap.size, 3, none⟩ = some (.int .i64 sl) := K0.cell 3
    have c4 : w0.cell? ⟨w.heap.size, 4, none⟩ = some (.int .i64 t) := K0.cell 4
    have c5 : w0.cell? ⟨w.heap.size, 5, none⟩ = some (.int .i64 ce) := K0.cell 5
    have c6 : w0.cell? ⟨w.heap.size, 6, none⟩ = some (.int .i64 ma) := K0.cell 6
    have c7 : w0.cell? ⟨w.heap.size, 7, none⟩ = some (.int .i64 st) := K0.cell 7
    have c8 : w0.cell? ⟨w.heap.size, 8, none⟩ = some (.int .i64 ch) := K0.cell 8
    go_wp2_with fail
    refine (HO.out _).mono ?_
    rintro e w1 ⟨rfl, hb1⟩
    clear c0 c1 c2 c3 c4 c5 c6 c7 c8
    have K1 := K0.later hb1
    have HN := Blk.made w1 26 #[.int .i64 0, .int .i64 0, .int .i64 0, .int .i64 0, .int .i64 0, .int .i64 0, .int .i64 0, .int .i64 0, .int .i64 0, .int .i64 0, .int .i64 0, .int .i64 0, .int .i64 0, .int .i64 0, .int .i64 0, .int .i64 0, .int .i64 0, .int .i64 0, .int .i64 0, .int .i64 0, .int .i64 0, .int .i64 0, .int .i64 0, .int .i64 0, .int .i64 0]
    have hth1 : Hid ((w1.alloc (Obj.cells #[.int .i64 0, .int .i64 0, .int .i64 0, .int .i64 0, .int .i64 0, .int .i64 0, .int .i64 0, .int .i64 0, .int .i64 0, .int .i64 0, .int .i64 0, .int .i64 0, .int .i64 0, .int .i64 0, .int .i64 0, .int .i64 0, .int .i64 0, .int .i64 0, .int .i64 0, .int .i64 0, .int .i64 0, .int .i64 0, .int .i64 0, .int .i64 0, .int .i64 0] 26)).there w1.heap.size 0 X.size) := Lib.hid fun j hj => by
      rw [Nat.zero_add]
      obtain ⟨u, hu⟩ := HN.has j (by rw [hx25.out] at hj; exact hj)
      exact ⟨by rw [hu]; rfl, HN.free j⟩
    have hb01 := below_trans hb0 hb1
    obtain ⟨W1, hW1⟩ : ∃ W, W = (w1.alloc (Obj.cells #[.int .i64 0, .int .i64 0, .int .i64 0, .int .i64 0, .int .i64 0, .int .i64 0, .int .i64 0, .int .i64 0, .int .i64 0, .int .i64 0, .int .i64 0, .int .i64 0, .int .i64 0, .int .i64 0, .int .i64 0, .int .i64 0, .int .i64 0, .int .i64 0, .int .i64 0, .int .i64 0, .int .i64 0, .int .i64 0, .int .i64 0, .int .i64 0, .int .i64 0] 26)).setCells w1.heap.size 0 X.toList := ⟨_, rfl⟩
    have KX : Blk W1 w1.heap.size 26 X := by rw [hW1]; exact HN.put_whole X.toList (by rw [Array.length_toList, hx25.out]; rfl)
    have lK := K1.lt
    have n1 : w.heap.size ≠ w1.heap.size := by omega
    have KW : Blk W1 w.heap.size 23 #[.int .i64 s, .int .i64 n, .int .i64 bu, .int .i64 sl, .int .i64 t, .int .i64 ce, .int .i64 ma, .int .i64 st, .int .i64 ch] := by rw [hW1]; exact Blk.farAll (w := w) n1 _ _ (K1.alloc _)
    have hbW : Below V.heap.size V W1 := by rw [hW1]; exact (hb01.alloc hb01.size _).trans (Lib.below_setCells_w hb01.size _ _ _)
    have HW1 := Lib.hid hW1
    clear hW1 HN hb0 hb1 hb01 K0 K1 n1 lK
    have c0 : W1.cell? ⟨w.heap.size, 0, none⟩ = some (.int .i64 s) := KW.cell 0
    have c1 : W1.cell? ⟨w.heap.size, 1, none⟩ = some (.int .i64 n) := KW.cell 1
    have c2 : W1.cell? ⟨w.heap.size, 2, none⟩ = some (.int .i64 bu) := KW.cell 2
    have c3 : W1.cell? ⟨w.heap.size, 3, none⟩ = some (.int .i64 sl) := KW.cell 3
    have c4 : W1.cell? ⟨w.heap.size, 4, none⟩ = some (.int .i64 t) := KW.cell 4
    have c5 : W1.cell? ⟨w.heap.size, 5, none⟩ = some (.int .i64 ce) := KW.cell 5
    have c6 : W1.cell? ⟨w.heap.size, 6, none⟩ = some (.int .i64 ma) := KW.cell 6
    have c7 : W1.cell? ⟨w.heap.size, 7, none⟩ = some (.int .i64 st) := KW.cell 7
    have c8 : W1.cell? ⟨w.heap.size, 8, none⟩ = some (.int .i64 ch) := KW.cell 8
    go_wp2_with ((with_reducible (show wpList _ _ _ ({ dst := none, op := Op.store 26 _ _, type := _, pos := _, after := _, guard := none } :: _) _ _)); refine wpList_store_mid rfl 26 _ _ rfl w1.heap.size 0 X rfl rfl hth1.out hxi.out hxOn.out ?_; rw [← HW1.out])
    refine (HR.out _).mono ?_
    rintro e w2 ⟨rfl, hb2⟩
    clear c0 c1 c2 c3 c4 c5 c6 c7 c8
    have KX1 := KX.later hb2
    have HN := Blk.made w2 26 #[.int .i64 0, .int .i64 0, .int .i64 0, .int .i64 0, .int .i64 0, .int .i64 0, .int .i64 0, .int .i64 0, .int .i64 0, .int .i64 0, .int .i64 0, .int .i64 0, .int .i64 0, .int .i64 0, .int .i64 0, .int .i64 0, .int .i64 0, .int .i64 0, .int .i64 0, .int .i64 0, .int .i64 0, .int .i64 0, .int .i64 0, .int .i64 0, .int .i64 0]
    have hth2 : Hid ((w2.alloc (Obj.cells #[.int .i64 0, .int .i64 0, .int .i64 0, .int .i64 0, .int .i64 0, .int .i64 0, .int .i64 0, .int .i64 0, .int .i64 0, .int .i64 0, .int .i64 0, .int .i64 0, .int .i64 0, .int .i64 0, .int .i64 0, .int .i64 0, .int .i64 0, .int .i64 0, .int .i64 0, .int .i64 0, .int .i64 0, .int .i64 0, .int .i64 0, .int .i64 0, .int .i64 0] 26)).there w2.heap.size 0 X.size) := Lib.hid fun j hj => by
      rw [Nat.zero_add]
      obtain ⟨u, hu⟩ := HN.has j (by rw [hx25.out] at hj; exact hj)
      exact ⟨by rw [hu]; rfl, HN.free j⟩
    have hb02 := below_trans hbW hb2
    obtain ⟨W2, hW2⟩ : ∃ W, W = (w2.alloc (Obj.cells #[.int .i64 0, .int .i64 0, .int .i64 0, .int .i64 0, .int .i64 0, .int .i64 0, .int .i64 0, .int .i64 0, .int .i64 0, .int .i64 0, .int .i64 0, .int .i64 0, .int .i64 0, .int .i64 0, .int .i64 0, .int .i64 0, .int .i64 0, .int .i64 0, .int .i64 0, .int .i64 0, .int .i64 0, .int .i64 0, .int .i64 0, .int .i64 0, .int .i64 0] 26)).setCells w2.heap.size 0 X.toList := ⟨_, rfl⟩
    have KY : Blk W2 w2.heap.size 26 X := by rw [hW2]; exact HN.put_whole X.toList (by rw [Array.length_toList, hx25.out]; rfl)
    have lK := KX1.lt
    have n1 : w1.heap.size ≠ w2.heap.size := by omega
    have KX2 : Blk W2 w1.heap.size 26 X := by rw [hW2]; exact Blk.farAll (w := w) n1 _ _ (KX1.alloc _)
    have hbW2 : Below V.heap.size V W2 := by rw [hW2]; exact (hb02.alloc hb02.size _).trans (Lib.below_setCells_w hb02.size _ _ _)
    have hraX : Hid (World.rangeAt W2 w1.heap.size 0 X.toList) := Lib.hid fun j v hv => by
      rw [Nat.zero_add, KX2.cell]; simpa using hv
    have hraY : Hid (World.rangeAt W2 w2.heap.size 0 X.toList) := Lib.hid fun j v hv => by
      rw [Nat.zero_add, KY.cell]; simpa using hv
    have hra : Hid (∀ w', (∃ x : After W2, w' = x.w) → World.rangeAt w' w2.heap.size 0 X.toList) := Lib.hid fun wx ⟨x, hx⟩ j v hv => by
      subst hx
      rw [Nat.zero_add, (KY.later x.bel).cell]; simpa using hv
    have HW2 := Lib.hid hW2
    have HBW := Lib.hid hbW2
    have hgd := layGuard
    have heq := HEQ.out
    clear hW2 HN hb2 hb02 KX KW KX1 KX2 KY n1 lK hbW hbW2
    go_wp2_with (first
      | (with_reducible (show wpList _ _ _ ({ dst := none, op := Op.store 26 _ _, type := _, pos := _, after := _, guard := none } :: _) _ _); refine wpList_store_mid rfl 26 _ _ rfl w2.heap.size 0 X rfl rfl hth2.out hxi.out hxOn.out ?_; rw [← HW2.out])
      | (with_reducible (show wpList _ _ _ ({ dst := some 23, op := Op.load 26 _, type := _, pos := _, after := _, guard := none } :: _) _ _); refine wpList_load_mid rfl 26 _ rfl w1.heap.size 0 rfl X.toList _ hraX.out layFields rfl hxj.out ?_)
      | (with_reducible (show wpList _ _ _ ({ dst := some 24, op := Op.load 26 _, type := _, pos := _, after := _, guard := none } :: _) _ _); refine wpList_load_mid rfl 26 _ rfl w2.heap.size 0 rfl X.toList _ hraY.out layFields rfl hxj.out ?_))
    go_ret
    exact ⟨rfl, HBV.out.trans (HBW.out.mono HBV.out.size)⟩
  have HO := Lib.hid fun w => of_ok s n bu sl t ce ma st ch hok w
  have HR := Lib.hid fun w => rof_ok s n bu sl t ce ma st ch hok w
  have HEQ := Lib.hid (lay_same (layV s n bu sl t ce ma st ch) (layC_cells ..))
  have HRI := Lib.hid fun w => right_lay s n bu sl t ce ma st ch hok w
  have hXx := ints_one3 (layV s n bu sl t ce ma st ch) (layC_cells ..)
  have HRS := Lib.hid fun w => rings_lay (layV s n bu sl t ce ma st ch) t rfl w
  have HRR := Lib.hid fun w => rrings_lay (layV s n bu sl t ce ma st ch) t rfl hok.may.ht.2 w
  obtain ⟨L, hL, hP, hA⟩ := rows_lay s n bu sl t ce ma st ch a b hok
  have HL := Lib.hid hL
  have HP := Lib.hid hP
  have HA := Lib.hid hA
  unfold confC at HO HR
  obtain ⟨X, hX⟩ : ∃ X, X = layV s n bu sl t ce ma st ch := ⟨_, rfl⟩
  rw [← hX] at HO HR HEQ hXx HRI HRS HRR HP HA
  obtain ⟨R, hR⟩ : ∃ R, ringsP t = R := ⟨_, rfl⟩
  rw [hR] at HRS HRR
  clear hX hok hL hP hA hR
  obtain ⟨x25, hxO⟩ := hXx
  have hx25 := Lib.hid x25
  have hxOn := Lib.hid hxO
  have hxi : Hid ((Try.prog.info? 26).map (·.size) = some X.size) := Lib.hid (by rw [x25]; exact lay25)
  have hxj : Hid ((Try.prog.info? 26).map (·.size) = some X.toList.length) := Lib.hid (by rw [Array.length_toList, x25]; exact lay25)
  clear x25 hxO
  go_enter Try.func3, Try.ntmps3
  go_wp2_with fail
  rw [← HV.out]
  refine (shown_any V).mono ?_
  rintro e w0 ⟨rfl, hb0⟩
  have K0 := KC.later hb0
  have c0 : w0.cell? ⟨w.heap.size, 0, none⟩ = some (.int .i64 s) := K0.cell 0
  have c1 : w0.cell? ⟨w.heap.size, 1, none⟩ = some (.int .i64 n) := K0.cell 1
  have c2 : w0.cell? ⟨w.heap.size, 2, none⟩ = some (.int .i64 bu) := K0.cell 2
  have c3 : w0.cell? ⟨w.heap.size, 3, none⟩ = some (.int .i64 sl) := K0.cell 3
  have c4 : w0.cell? ⟨w.heap.size, 4, none⟩ = some (.int .i64 t) := K0.cell 4
  have c5 : w0.cell? ⟨w.heap.size, 5, none⟩ = some (.int .i64 ce) := K0.cell 5
  have c6 : w0.cell? ⟨w.heap.size, 6, none⟩ = some (.int .i64 ma) := K0.cell 6
  have c7 : w0.cell? ⟨w.heap.size, 7, none⟩ = some (.int .i64 st) := K0.cell 7
  have c8 : w0.cell? ⟨w.heap.size, 8, none⟩ = some (.int .i64 ch) := K0.cell 8
  go_wp2_with fail
  refine (HO.out _).mono ?_
  rintro e w1 ⟨rfl, hb1⟩
  clear c0 c1 c2 c3 c4 c5 c6 c7 c8
  have K1 := K0.later hb1
  have HN := Blk.made w1 26 #[.int .i64 0, .int .i64 0, .int .i64 0, .int .i64 0, .int .i64 0, .int .i64 0, .int .i64 0, .int .i64 0, .int .i64 0, .int .i64 0, .int .i64 0, .int .i64 0, .int .i64 0, .int .i64 0, .int .i64 0, .int .i64 0, .int .i64 0, .int .i64 0, .int .i64 0, .int .i64 0, .int .i64 0, .int .i64 0, .int .i64 0, .int .i64 0, .int .i64 0]
  have hth1 : Hid ((w1.alloc (Obj.cells #[.int .i64 0, .int .i64 0, .int .i64 0, .int .i64 0, .int .i64 0, .int .i64 0, .int .i64 0, .int .i64 0, .int .i64 0, .int .i64 0, .int .i64 0, .int .i64 0, .int .i64 0, .int .i64 0, .int .i64 0, .int .i64 0, .int .i64 0, .int .i64 0, .int .i64 0, .int .i64 0, .int .i64 0, .int .i64 0, .int .i64 0, .int .i64 0, .int .i64 0] 26)).there w1.heap.size 0 X.size) := Lib.hid fun j hj => by
    rw [Nat.zero_add]
    obtain ⟨u, hu⟩ := HN.has j (by rw [hx25.out] at hj; exact hj)
    exact ⟨by rw [hu]; rfl, HN.free j⟩
  have hb01 := below_trans hb0 hb1
  obtain ⟨W1, hW1⟩ : ∃ W, W = (w1.alloc (Obj.cells #[.int .i64 0, .int .i64 0, .int .i64 0, .int .i64 0, .int .i64 0, .int .i64 0, .int .i64 0, .int .i64 0, .int .i64 0, .int .i64 0, .int .i64 0, .int .i64 0, .int .i64 0, .int .i64 0, .int .i64 0, .int .i64 0, .int .i64 0, .int .i64 0, .int .i64 0, .int .i64 0, .int .i64 0, .int .i64 0, .int .i64 0, .int .i64 0, .int .i64 0] 26)).setCells w1.heap.size 0 X.toList := ⟨_, rfl⟩
  have KX : Blk W1 w1.heap.size 26 X := by rw [hW1]; exact HN.put_whole X.toList (by rw [Array.length_toList, hx25.out]; rfl)
  have lK := K1.lt
  have n1 : w.heap.size ≠ w1.heap.size := by omega
  have KW : Blk W1 w.heap.size 23 #[.int .i64 s, .int .i64 n, .int .i64 bu, .int .i64 sl, .int .i64 t, .int .i64 ce, .int .i64 ma, .int .i64 st, .int .i64 ch] := by rw [hW1]; exact Blk.farAll (w := w) n1 _ _ (K1.alloc _)
  have hbW : Below V.heap.size V W1 := by rw [hW1]; exact (hb01.alloc hb01.size _).trans (Lib.below_setCells_w hb01.size _ _ _)
  have HW1 := Lib.hid hW1
  clear hW1 HN hb0 hb1 hb01 K0 K1 n1 lK
  have c0 : W1.cell? ⟨w.heap.size, 0, none⟩ = some (.int .i64 s) := KW.cell 0
  have c1 : W1.cell? ⟨w.heap.size, 1, none⟩ = some (.int .i64 n) := KW.cell 1
  have c2 : W1.cell? ⟨w.heap.size, 2, none⟩ = some (.int .i64 bu) := KW.cell 2
  have c3 : W1.cell? ⟨w.heap.size, 3, none⟩ = some (.int .i64 sl) := KW.cell 3
  have c4 : W1.cell? ⟨w.heap.size, 4, none⟩ = some (.int .i64 t) := KW.cell 4
  have c5 : W1.cell? ⟨w.heap.size, 5, none⟩ = some (.int .i64 ce) := KW.cell 5
  have c6 : W1.cell? ⟨w.heap.size, 6, none⟩ = some (.int .i64 ma) := KW.cell 6
  have c7 : W1.cell? ⟨w.heap.size, 7, none⟩ = some (.int .i64 st) := KW.cell 7
  have c8 : W1.cell? ⟨w.heap.size, 8, none⟩ = some (.int .i64 ch) := KW.cell 8
  go_wp2_with ((with_reducible (show wpList _ _ _ ({ dst := none, op := Op.store 26 _ _, type := _, pos := _, after := _, guard := none } :: _) _ _)); refine wpList_store_mid rfl 26 _ _ rfl w1.heap.size 0 X rfl rfl hth1.out hxi.out hxOn.out ?_; rw [← HW1.out])
  refine (HR.out _).mono ?_
  rintro e w2 ⟨rfl, hb2⟩
  clear c0 c1 c2 c3 c4 c5 c6 c7 c8
  have KX1 := KX.later hb2
  have HN := Blk.made w2 26 #[.int .i64 0, .int .i64 0, .int .i64 0, .int .i64 0, .int .i64 0, .int .i64 0, .int .i64 0, .int .i64 0, .int .i64 0, .int .i64 0, .int .i64 0, .int .i64 0, .int .i64 0, .int .i64 0, .int .i64 0, .int .i64 0, .int .i64 0, .int .i64 0, .int .i64 0, .int .i64 0, .int .i64 0, .int .i64 0, .int .i64 0, .int .i64 0, .int .i64 0]
  have hth2 : Hid ((w2.alloc (Obj.cells #[.int .i64 0, .int .i64 0, .int .i64 0, .int .i64 0, .int .i64 0, .int .i64 0, .int .i64 0, .int .i64 0, .int .i64 0, .int .i64 0, .int .i64 0, .int .i64 0, .int .i64 0, .int .i64 0, .int .i64 0, .int .i64 0, .int .i64 0, .int .i64 0, .int .i64 0, .int .i64 0, .int .i64 0, .int .i64 0, .int .i64 0, .int .i64 0, .int .i64 0] 26)).there w2.heap.size 0 X.size) := Lib.hid fun j hj => by
    rw [Nat.zero_add]
    obtain ⟨u, hu⟩ := HN.has j (by rw [hx25.out] at hj; exact hj)
    exact ⟨by rw [hu]; rfl, HN.free j⟩
  have hb02 := below_trans hbW hb2
  obtain ⟨W2, hW2⟩ : ∃ W, W = (w2.alloc (Obj.cells #[.int .i64 0, .int .i64 0, .int .i64 0, .int .i64 0, .int .i64 0, .int .i64 0, .int .i64 0, .int .i64 0, .int .i64 0, .int .i64 0, .int .i64 0, .int .i64 0, .int .i64 0, .int .i64 0, .int .i64 0, .int .i64 0, .int .i64 0, .int .i64 0, .int .i64 0, .int .i64 0, .int .i64 0, .int .i64 0, .int .i64 0, .int .i64 0, .int .i64 0] 26)).setCells w2.heap.size 0 X.toList := ⟨_, rfl⟩
  have KY : Blk W2 w2.heap.size 26 X := by rw [hW2]; exact HN.put_whole X.toList (by rw [Array.length_toList, hx25.out]; rfl)
  have lK := KX1.lt
  have n1 : w1.heap.size ≠ w2.heap.size := by omega
  have KX2 : Blk W2 w1.heap.size 26 X := by rw [hW2]; exact Blk.farAll (w := w) n1 _ _ (KX1.alloc _)
  have hbW2 : Below V.heap.size V W2 := by rw [hW2]; exact (hb02.alloc hb02.size _).trans (Lib.below_setCells_w hb02.size _ _ _)
  have hraX : Hid (World.rangeAt W2 w1.heap.size 0 X.toList) := Lib.hid fun j v hv => by
    rw [Nat.zero_add, KX2.cell]; simpa using hv
  have hraY : Hid (World.rangeAt W2 w2.heap.size 0 X.toList) := Lib.hid fun j v hv => by
    rw [Nat.zero_add, KY.cell]; simpa using hv
  have hra : Hid (∀ w', (∃ x : After W2, w' = x.w) → World.rangeAt w' w2.heap.size 0 X.toList) := Lib.hid fun wx ⟨x, hx⟩ j v hv => by
    subst hx
    rw [Nat.zero_add, (KY.later x.bel).cell]; simpa using hv
  have HW2 := Lib.hid hW2
  have HBW := Lib.hid hbW2
  have hgd := layGuard
  have heq := HEQ.out
  clear hW2 HN hb2 hb02 KX KW KX1 KX2 KY n1 lK hbW hbW2
  go_wp2_with (first
    | (with_reducible (show wpList _ _ _ ({ dst := none, op := Op.store 26 _ _, type := _, pos := _, after := _, guard := none } :: _) _ _); refine wpList_store_mid rfl 26 _ _ rfl w2.heap.size 0 X rfl rfl hth2.out hxi.out hxOn.out ?_; rw [← HW2.out])
    | (with_reducible (show wpList _ _ _ ({ dst := some 23, op := Op.load 26 _, type := _, pos := _, after := _, guard := none } :: _) _ _); refine wpList_load_mid rfl 26 _ rfl w1.heap.size 0 rfl X.toList _ hraX.out layFields rfl hxj.out ?_)
    | (with_reducible (show wpList _ _ _ ({ dst := some 24, op := Op.load 26 _, type := _, pos := _, after := _, guard := none } :: _) _ _); refine wpList_load_mid rfl 26 _ rfl w2.heap.size 0 rfl X.toList _ hraY.out layFields rfl hxj.out ?_))
  clear hgd heq
  refine wp_region_grow [(3, Maker.val (.bool true)), (7, Maker.val (.int .i64 R)), (9, Maker.val (.int .i64 R)), (16, rowM L), (20, rowM L), (21, Maker.val (.bool true))] (by kernel_rfl) (by kernel_rfl) (by kernel_rfl) ?_
  repeat (first
    | (refine wpGrow_plain rfl ?_; first
      | (with_reducible (show wpQuiet _ _ _ _ ({ dst := _, op := Op.load 26 _, type := _, pos := _, after := _, guard := _ } :: _) _); go_big_quiet_want; refine quiet_load_K 26 _ rfl w2.heap.size 0 rfl X.toList _ hra.out layFields rfl hxj.out ?_; go_simp; go_big_quiet_on; refine wpQuiet_nil ?_)
      | (go_big_quiet_step (fail); refine wpQuiet_nil ?_))
    | (refine wpGrow_val rfl rfl (fun _ hx hF => ?_) (fun a' ha => ?_)
       · obtain ⟨x, rfl⟩ := hx
         go_simp
         first
           | (with_reducible exact make_val (HRI.out _))
           | (with_reducible exact make_val (HRS.out _))
           | (with_reducible exact make_val (HRR.out _))
           | (have q1 := row_fact (show (rowM L).S _ x.w from hF 16 ⟨[], by kernel_rfl⟩)
              have q2 := row_fact (show (rowM L).S _ x.w from hF 20 ⟨[], by kernel_rfl⟩)
              exact make_val (ints_same _ _ 14 _ L HL.out (by omega) _ q1 q2))
       simp [go_sem] at ha
       subst ha)
    | (refine wpGrow_any _ rfl rfl (fun _ hx hF => ?_) (fun v hv a' ha => ?_)
       · obtain ⟨x, rfl⟩ := hx
         go_simp
         first
           | (with_reducible exact row_make (HP.out _))
           | (with_reducible exact row_make (HA.out _))
       obtain ⟨g, rfl⟩ := hv
       simp [go_sem] at ha
       subst ha))
  refine wpGrow_nil ?_
  rintro _ ⟨y, rfl⟩ hF
  clear hF
  go_wp2_with fail
  go_ret
  exact ⟨rfl, HBV.out.trans ((below_trans HBW.out y.bel).mono HBV.out.size)⟩
end Go.Proofs.Ytbaeckehchpfaaa
