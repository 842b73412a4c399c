/-
  RING: the law's examples.
-/
import Derived.Test.YtabgpoagnofifaaRows
import Derived.ProofKit
import Derived.ChangeKeysEq
import Derived.Test.YtabgpoagnofifaaLayF
namespace Go.Proofs.Ytabgpoagnofifaa
open Go.ChangeShapes Go.WideShapes Go.ChangeAt Go.RowKit

theorem twoGuard : Try.prog.eqGuardType Try.prog.depth 46 = false := by kernel_rfl
theorem twoRow : Try.prog.underlying 46 = some (.array 2 3) := by kernel_rfl
theorem twoInt : Try.prog.underlying 3 = some (.int .i64) := by kernel_rfl
theorem intInfo : (Try.prog.info? 3).map (fun i => (i.zero, i.size, i.bytes)) = some (some (.int .i64 0), 1, 8) := by kernel_rfl

theorem two_eq (a b c d : Int) (w : World) : (Op.equalIn 10000 46 (.agg #[.int .i64 a, .int .i64 b]) (.agg #[.int .i64 c, .int .i64 d])).run Try.prog w = .ok ((a == c) && (b == d)) w := by
  obtain ⟨i0, hi0, hz0, hz1, hz2⟩ := info_parts intInfo
  have hce : Try.prog.cellsOf 3 = 1 := by kernel_rfl
  rw [run_equalIn_array w 9999 _ _ twoRow hi0, hce]
  have p1 : ∀ (x y : Int) (wx : World), (part 3 #[.int .i64 x, .int .i64 y] 0).run Try.prog wx = .ok (.int .i64 x) wx := fun x y wx => by simp [part, isAgg, run_underlying twoInt]
  have p2 : ∀ (x y : Int) (wx : World), (part 3 #[.int .i64 x, .int .i64 y] 1).run Try.prog wx = .ok (.int .i64 y) wx := fun x y wx => by simp [part, isAgg, run_underlying twoInt]
  have pe : ∀ (x y : Int) (wx : World), (Op.equalIn 9999 3 (.int .i64 x) (.int .i64 y)).run Try.prog wx = .ok (x == y) wx := fun x y wx => run_equalIn_int wx 9998 3 .i64 .i64 x y twoInt
  show (Op.eqItems 9999 3 1 _ _ [0, 1]).run Try.prog w = _
  cases hac : (a == c) <;> cases hbd : (b == d) <;> simp [Op.eqItems, p1, p2, pe, hac, hbd]

theorem wpList_load_mid_g {P : Program} {ops : Array Oper} {rest : List Oper} {op : Oper} {a : Act} {w : World} {Q : Exit → Act → World → Prop} (hw : Region.wanted op (yielded ops a.tmps) = true) (ty : TypeId) (x : Operand) (ho : op.op = .load ty x)
    (b o : Nat) (hx : a.eval x = .pointer (some ⟨b, o, none⟩)) (cs : List Value) (d : TypeDesc) (hc : w.rangeAt b o cs)
    (hu : P.underlying ty = some d) (hd : d.isRow = true) (hi : (P.info? ty).map (·.size) = some cs.length)
    (h : wpList P ops Q rest (a.put op.dst (.agg cs.toArray)) w) : wpList P ops Q (op :: rest) a w :=
  wpList_step fun K hK => by rw [if_pos hw]; exact wp_load_mid ty x ho b o hx cs d hc hu hd hi (hK _ _ h)

set_option maxHeartbeats 4000000 in
theorem awake_any (w : World) : Calls Try.prog 8 #[] w fun e w' => e = .returned (.bool true) ∧ Below w.heap.size w w' := by
  obtain ⟨X, hX⟩ : ∃ X, X = lay2 (1 + 0) (1 + 20) := ⟨_, rfl⟩
  have hWh := fun w => where_any 0 20 0 20 rfl rfl (by omega) (by omega) w
  rw [← hX] at hWh
  have x25 : X.size = 25 := by rw [hX]; rfl
  have x0 : X[0]? = some (.int .i64 1) := by rw [hX]; rfl
  have x4 : X[4]? = some (.int .i64 21) := by rw [hX]; rfl
  have x17 : X[17]? = some (.int .i64 12) := by rw [hX]; rfl
  have hOn : Hid (X.all (·.oneCell') = true) := Lib.hid (by rw [hX]; simp [lay2, layC, Value.oneCell'])
  have hi1 : Hid ((Try.prog.info? 26).map (·.size) = some X.size) := Lib.hid (by rw [x25]; exact lay25)
  have hi2 : Hid ((Try.prog.info? 26).map (·.size) = some X.toList.length) := Lib.hid (by rw [Array.length_toList, x25]; exact lay25)
  have hMv : ∀ w, Calls Try.prog 15 #[.agg X, .int .i64 0, .int .i64 0, .int .i64 3, .int .i64 5] w (MovesPost w 12 4 16 8 3 2) := fun w =>
    moves_yes X 1 21 12 0 0 3 2 x25 x0 x4 x17 (by omega) (by omega) (by decide) (by decide) (by decide) (by decide) (by decide) (by omega) (by omega) w
  have hR0 : ∀ w, Calls Try.prog 21 #[.agg X, .int .i64 0, .int .i64 0] w fun e w' => e = .returned (.int .i64 12) ∧ Below w.heap.size w w' := fun w => ring_lay X 1 21 12 0 0 x25 x0 x4 x17 (by omega) (by omega) w
  have hR1 : ∀ w, Calls Try.prog 21 #[.agg X, .int .i64 0, .int .i64 1] w fun e w' => e = .returned (.int .i64 16) ∧ Below w.heap.size w w' := fun w => ring_lay X 1 21 12 0 1 x25 x0 x4 x17 (by omega) (by omega) w
  have hP0 : ∀ w, Calls Try.prog 12 #[.agg X, .int .i64 0, .int .i64 0, .int .i64 5] w fun e w' => e = .returned (.int .i64 13) ∧ Below w.heap.size w w' := fun w => place_lay X 1 21 12 0 0 5 x25 x0 x4 x17 (by omega) (by omega) w
  have hP9 : ∀ w, Calls Try.prog 12 #[.agg X, .int .i64 0, .int .i64 9, .int .i64 5] w fun e w' => e = .returned (.int .i64 (-1)) ∧ Below w.heap.size w w' := fun w => place_lay X 1 21 12 0 9 5 x25 x0 x4 x17 (by omega) (by omega) w
  have HMv := Lib.hid hMv
  have HR0 := Lib.hid hR0
  have HR1 := Lib.hid hR1
  have HP0 := Lib.hid hP0
  have HP9 := Lib.hid hP9
  have HWh := Lib.hid hWh
  have HX25 := Lib.hid x25
  clear hX hMv hR0 hR1 hP0 hP9 hWh x25 x0 x4 x17
  go_enter Try.func8, Try.ntmps8
  go_wp2_with fail
  refine (HWh.out w).mono ?_
  rintro e w1 ⟨rfl, hb1⟩
  obtain ⟨W, hW⟩ : ∃ W, W = (w1.alloc (Obj.cells #[.int .i64 0, .int .i64 0, .int .i64 0, .int .i64 0, .int .i64 0, .int .i64 0, .int .i64 0, .int .i64 0, .int .i64 0, .int .i64 0, .int .i64 0, .int .i64 0, .int .i64 0, .int .i64 0, .int .i64 0, .int .i64 0, .int .i64 0, .int .i64 0, .int .i64 0, .int .i64 0, .int .i64 0, .int .i64 0, .int .i64 0, .int .i64 0, .int .i64 0] 26)).setCells w1.heap.size 0 X.toList := ⟨_, rfl⟩
  have HN := Blk.made w1 26 #[.int .i64 0, .int .i64 0, .int .i64 0, .int .i64 0, .int .i64 0, .int .i64 0, .int .i64 0, .int .i64 0, .int .i64 0, .int .i64 0, .int .i64 0, .int .i64 0, .int .i64 0, .int .i64 0, .int .i64 0, .int .i64 0, .int .i64 0, .int .i64 0, .int .i64 0, .int .i64 0, .int .i64 0, .int .i64 0, .int .i64 0, .int .i64 0, .int .i64 0]
  have HA : Blk W w1.heap.size 26 X := by rw [hW]; exact HN.put_whole X.toList (by rw [Array.length_toList, HX25.out]; rfl)
  have hbW : Below w.heap.size w W := by rw [hW]; exact (hb1.alloc hb1.size _).trans (Lib.below_setCells_w hb1.size _ _ _)
  have hth1 : Hid ((w1.alloc (Obj.cells #[.int .i64 0, .int .i64 0, .int .i64 0, .int .i64 0, .int .i64 0, .int .i64 0, .int .i64 0, .int .i64 0, .int .i64 0, .int .i64 0, .int .i64 0, .int .i64 0, .int .i64 0, .int .i64 0, .int .i64 0, .int .i64 0, .int .i64 0, .int .i64 0, .int .i64 0, .int .i64 0, .int .i64 0, .int .i64 0, .int .i64 0, .int .i64 0, .int .i64 0] 26)).there w1.heap.size 0 X.size) := Lib.hid fun j hj => by
    rw [Nat.zero_add]
    obtain ⟨u, hu⟩ := HN.has j (by rw [HX25.out] at hj; exact hj)
    exact ⟨by rw [hu]; rfl, HN.free j⟩
  have hra : Hid (∀ wx, Below W.heap.size W wx → World.rangeAt wx w1.heap.size 0 X.toList) := Lib.hid fun wx hx j v hv => by
    rw [Nat.zero_add, (HA.later hx).cell]; simpa using hv
  have HW := Lib.hid hW
  have HBW := Lib.hid hbW
  clear hW hbW HN HA
  go_wp2_with (first
    | (with_reducible (show wpList _ _ _ ({ dst := _, op := Op.load 26 _, type := _, pos := _, after := _, guard := _ } :: _) _ _); refine wpList_load_mid rfl 26 _ rfl w1.heap.size 0 rfl X.toList _ (hra.out _ (Below.refl _ _)) layFields rfl hi2.out ?_)
    | (with_reducible (show wpList _ _ _ ({ dst := none, op := Op.store 26 _ _, type := _, pos := _, after := _, guard := none } :: _) _ _); refine wpList_store_mid rfl 26 _ _ rfl w1.heap.size 0 X rfl rfl hth1.out hi1.out hOn.out ?_; rw [← HW.out]))
  refine (HMv.out _).mono ?_
  rintro e w2 ⟨p, cap, rfl, hown, hb2⟩
  have hgg : ∃ g, p = some ⟨g, 0, none⟩ := by
    rcases hown.2 with ⟨h, _⟩ | ⟨g, cp, cur, hv, _⟩
    · simp at h
    · exact ⟨g, by injection hv⟩
  obtain ⟨g, rfl⟩ := hgg
  have hgl : g < w2.heap.size := (hown.lt g rfl).2
  have k0 := hown.cellAt 0 (by omega)
  have k1 := hown.cellAt 1 (by omega)
  have k2 := hown.cellAt 2 (by omega)
  have k3 := hown.cellAt 3 (by omega)
  have hcs : ∀ wx, Below w2.heap.size w2 wx → wx.cell? ⟨g, 0, none⟩ = some (.int .i64 15) ∧ wx.cell? ⟨g, 1, none⟩ = some (.int .i64 19) ∧ wx.cell? ⟨g, 2, none⟩ = some (.int .i64 12) ∧ wx.cell? ⟨g, 3, none⟩ = some (.int .i64 20) := fun wx hx =>
    ⟨(hx.cell (p := ⟨g, 0, none⟩) hgl).trans k0, (hx.cell (p := ⟨g, 1, none⟩) hgl).trans k1, (hx.cell (p := ⟨g, 2, none⟩) hgl).trans k2, (hx.cell (p := ⟨g, 3, none⟩) hgl).trans k3⟩
  have HCS := Lib.hid hcs
  clear k0 k1 k2 k3 hcs hown hth1 hOn hi1 HMv HWh
  go_wp2_with (first | (with_reducible (show wpList _ _ _ ({ dst := _, op := Op.load 26 _, type := _, pos := _, after := _, guard := none } :: _) _ _); refine wpList_load_mid rfl 26 _ rfl w1.heap.size 0 rfl X.toList _ (hra.out _ hb2) layFields rfl hi2.out ?_) | (with_reducible (show wpList _ _ _ ({ dst := _, op := Op.load 26 _, type := _, pos := _, after := _, guard := some _ } :: _) _ _); refine wpList_load_mid_g rfl 26 _ rfl w1.heap.size 0 rfl X.toList _ (hra.out _ hb2) layFields rfl hi2.out ?_))
  refine (HR0.out _).mono ?_
  rintro e w3 ⟨rfl, hb3⟩
  have B3 := below_trans hb2 hb3
  go_wp2_with (first | (with_reducible (show wpList _ _ _ ({ dst := _, op := Op.load 26 _, type := _, pos := _, after := _, guard := none } :: _) _ _); refine wpList_load_mid rfl 26 _ rfl w1.heap.size 0 rfl X.toList _ (hra.out _ B3) layFields rfl hi2.out ?_) | (with_reducible (show wpList _ _ _ ({ dst := _, op := Op.load 26 _, type := _, pos := _, after := _, guard := some _ } :: _) _ _); refine wpList_load_mid_g rfl 26 _ rfl w1.heap.size 0 rfl X.toList _ (hra.out _ B3) layFields rfl hi2.out ?_))
  refine (HR1.out _).mono ?_
  rintro e w4 ⟨rfl, hb4⟩
  have B4 := below_trans B3 hb4
  go_wp2_with fail
  refine (size_any 0 _).mono ?_
  rintro e w4 ⟨rfl, rfl⟩
  rw [show sizeP 0 = 4 from rfl]
  go_wp2_with fail
  refine (size_any 1 _).mono ?_
  rintro e w4 ⟨rfl, rfl⟩
  rw [show sizeP 1 = 8 from rfl]
  go_wp2_with fail
  refine (size_any 2 _).mono ?_
  rintro e w4 ⟨rfl, rfl⟩
  rw [show sizeP 2 = 16 from rfl]
  go_wp2_with (first | (with_reducible (show wpList _ _ _ ({ dst := _, op := Op.load 26 _, type := _, pos := _, after := _, guard := none } :: _) _ _); refine wpList_load_mid rfl 26 _ rfl w1.heap.size 0 rfl X.toList _ (hra.out _ B4) layFields rfl hi2.out ?_) | (with_reducible (show wpList _ _ _ ({ dst := _, op := Op.load 26 _, type := _, pos := _, after := _, guard := some _ } :: _) _ _); refine wpList_load_mid_g rfl 26 _ rfl w1.heap.size 0 rfl X.toList _ (hra.out _ B4) layFields rfl hi2.out ?_))
  refine (HP0.out _).mono ?_
  rintro e w5 ⟨rfl, hb5⟩
  have B5 := below_trans B4 hb5
  go_wp2_with (first | (with_reducible (show wpList _ _ _ ({ dst := _, op := Op.load 26 _, type := _, pos := _, after := _, guard := none } :: _) _ _); refine wpList_load_mid rfl 26 _ rfl w1.heap.size 0 rfl X.toList _ (hra.out _ B5) layFields rfl hi2.out ?_) | (with_reducible (show wpList _ _ _ ({ dst := _, op := Op.load 26 _, type := _, pos := _, after := _, guard := some _ } :: _) _ _); refine wpList_load_mid_g rfl 26 _ rfl w1.heap.size 0 rfl X.toList _ (hra.out _ B5) layFields rfl hi2.out ?_))
  refine (HP9.out _).mono ?_
  rintro e w6 ⟨rfl, hb6⟩
  have B6 := below_trans B5 hb6
  obtain ⟨c0, c1, c2, c3⟩ := HCS.out w6 (below_trans (below_trans (below_trans hb3 hb4) hb5) hb6)
  have hgd := twoGuard
  have q1 : ∀ wx, (Op.equalIn 10000 46 (.agg #[.int .i64 15, .int .i64 19]) (.agg #[.int .i64 15, .int .i64 19])).run Try.prog wx = .ok true wx := fun wx => two_eq 15 19 15 19 wx
  have q2 : ∀ wx, (Op.equalIn 10000 46 (.agg #[.int .i64 12, .int .i64 20]) (.agg #[.int .i64 12, .int .i64 20])).run Try.prog wx = .ok true wx := fun wx => two_eq 12 20 12 20 wx
  go_wp2_with fail
  go_ret
  exact ⟨rfl, HBW.out.trans (B6.mono HBW.out.size)⟩
end Go.Proofs.Ytabgpoagnofifaa
