/-
  SPEC: the examples.
-/
import Derived.Test.YthbpoagkfpalfaaRows
import Derived.ProofKit
import Derived.Deep.QuietTactic
import Derived.BigQuiet
import Derived.LoopTactic
import Derived.Test.YthbpoagkfpalfaaSpecG
namespace Go.Proofs.Ythbpoagkfpalfaa
open Go.ChangeShapes Go.WideShapes Go.ChangeAt Go.RowKit

theorem Ods.of_blk {w : World} {g : Nat} {t : TypeId} {cs : Array Value} {l : List OpV} (h : Blk w g t cs) (hc : cs.toList = odV l) : Ods w (some ⟨g, 0, none⟩) l :=
  .of_cells ⟨fun i hi => ⟨g, 0, rfl, h.lt, by rw [Nat.zero_add, h.cell, ← Array.getElem?_toList, hc, List.getElem?_eq_getElem hi]⟩⟩
theorem Nums.blk {w : World} {g : Nat} {t : TypeId} {cs : Array Value} {xs : List Int} {n : Nat} (h : Blk w g t cs) (hc : cs.toList = xs.map (Value.int .i64)) (hn : xs.length = n) (hm : n ≤ 1000000) : Nums w (some ⟨g, 0, none⟩) n xs :=
  Nums.of_blk h (by rw [hc, List.take_of_length_le (by simp)]) (by omega) (by unfold maxLen; omega)
theorem Bls.blk {w : World} {g : Nat} {t : TypeId} {cs : Array Value} {xs : List Bool} {n : Nat} (h : Blk w g t cs) (hc : cs.toList = xs.map Value.bool) : Bls w (some ⟨g, 0, none⟩) n xs :=
  Bls.of_blk h (by rw [hc, List.take_of_length_le (by simp)])
/-- a call of Do, its answer at hand -/
theorem do_at (c : ContV) (o : OpV) (k : Int) (ks vs : List Int) (v : Int) (b : Bool) (hr : doC c o = (⟨k, ks, vs⟩, v, b)) (kn vn : Nat) (h1 : c.keys.length = kn) (h2 : c.vals.length = vn) (kp vp : Option Addr) (kc vc : Nat) (w : World) (a1 : Nums w kp kc c.keys) (a2 : Nums w vp vc c.vals) (l1 : kn ≤ 40000) (l2 : vn ≤ 40000) (nk nv : Nat) (h3 : ks.length = nk) (h4 : vs.length = nv) :
    Calls Try.prog 11 #[.agg #[.int .i64 c.kind, .slice kp kn kc, .slice vp vn vc], .agg #[.int .i64 o.kind, .int .i64 o.obj, .int .i64 o.a, .int .i64 o.b]] w fun e w' => ∃ kp2 kc2 vp2 vc2, e = .returned (.tuple #[.agg #[.int .i64 k, .slice kp2 nk kc2, .slice vp2 nv vc2], .int .i64 v, .bool b]) ∧ Nums w' kp2 kc2 ks ∧ Nums w' vp2 vc2 vs ∧ Below w.heap.size w w' := by
  refine (do_any c o kn vn h1 h2 kp vp kc vc w a1 a2 l1 l2).mono fun e w' h => ?_
  rw [hr] at h
  obtain ⟨a, b, x, y, h5, h6, h7, h8, _⟩ := h.at k nk nv v b rfl h3 h4 rfl rfl
  exact ⟨a, b, x, y, h5, h6, h7, h8⟩
theorem all_at (c : ContV) (l : List OpV) (n : Nat) (hl : l.length = n) (k : Int) (ks vs told : List Int) (bs : List Bool) (hr : allC c l = (⟨k, ks, vs⟩, told, bs)) (kn vn : Nat) (h1 : c.keys.length = kn) (h2 : c.vals.length = vn) (kp vp : Option Addr) (kc vc : Nat) (lp : Option Addr) (lc : Nat) (w : World) (a1 : Nums w kp kc c.keys) (a2 : Nums w vp vc c.vals) (a3 : Ods w lp l) (l1 : kn ≤ 20000) (l2 : vn ≤ 20000) (l3 : n ≤ 10000) (nk nv : Nat) (h3 : ks.length = nk) (h4 : vs.length = nv) :
    Calls Try.prog 15 #[.agg #[.int .i64 c.kind, .slice kp kn kc, .slice vp vn vc], .slice lp n lc] w fun e w' => ∃ kp2 kc2 vp2 vc2 g1 g2, e = .returned (.tuple #[.agg #[.int .i64 k, .slice kp2 nk kc2, .slice vp2 nv vc2], .slice (some ⟨g1, 0, none⟩) n n, .slice (some ⟨g2, 0, none⟩) n n]) ∧
      Nums w' kp2 kc2 ks ∧ Nums w' vp2 vc2 vs ∧ Nums w' (some ⟨g1, 0, none⟩) n told ∧ Bls w' (some ⟨g2, 0, none⟩) n bs ∧ Below w.heap.size w w' :=
  (all_any c kn vn h1 h2 kp vp kc vc l n hl lp lc w a1 a2 a3 l1 l2 l3).mono fun e w' h => by
    rw [hr] at h
    obtain ⟨x1, x2, x3, x4, x5, x6, y1, y2, y3, y4, y5, y6, _, _⟩ := h.at k nk nv rfl h3 h4
    exact ⟨x1, x2, x3, x4, x5, x6, y1, y2, y3, y4, y5, y6⟩
theorem all_fresh (c : ContV) (l : List OpV) (n : Nat) (hl : l.length = n) (k : Int) (ks vs told : List Int) (bs : List Bool) (hr : allC c l = (⟨k, ks, vs⟩, told, bs)) (kn vn : Nat) (h1 : c.keys.length = kn) (h2 : c.vals.length = vn) (kp vp : Option Addr) (kc vc : Nat) (lp : Option Addr) (lc : Nat) (w : World) (a1 : Nums w kp kc c.keys) (a2 : Nums w vp vc c.vals) (a3 : Ods w lp l) (l1 : kn ≤ 20000) (l2 : vn ≤ 20000) (l3 : n ≤ 10000) (nk nv : Nat) (h3 : ks.length = nk) (h4 : vs.length = nv) :
    Calls Try.prog 15 #[.agg #[.int .i64 c.kind, .slice kp kn kc, .slice vp vn vc], .slice lp n lc] w fun e w' => ∃ kp2 kc2 vp2 vc2 g1 g2, e = .returned (.tuple #[.agg #[.int .i64 k, .slice kp2 nk kc2, .slice vp2 nv vc2], .slice (some ⟨g1, 0, none⟩) n n, .slice (some ⟨g2, 0, none⟩) n n]) ∧
      Nums w' kp2 kc2 ks ∧ Nums w' vp2 vc2 vs ∧ Nums w' (some ⟨g1, 0, none⟩) n told ∧ Bls w' (some ⟨g2, 0, none⟩) n bs ∧ Below w.heap.size w w' ∧ w.heap.size ≤ g1 ∧ w.heap.size ≤ g2 :=
  (all_any c kn vn h1 h2 kp vp kc vc l n hl lp lc w a1 a2 a3 l1 l2 l3).mono fun e w' h => by
    rw [hr] at h
    exact h.at k nk nv rfl h3 h4

theorem ints_t (a : List Int) (n : Nat) (hn : a.length = n) (p q : Option Addr) (c d : Nat) (w : World) (ha : Nums w p c a) (hb : Nums w q d a) (hl : n ≤ 1000000) :
    Calls Try.prog 18 #[.slice p n c, .slice q n d] w fun e w' => e = .returned (.bool true) ∧ ∃ x, w' = w.drewN x := by
  have := ints_any a a n n hn hn p q c d w ha hb hl hl
  rw [decide_eq_true rfl] at this; exact this
theorem bools_t (a : List Bool) (n : Nat) (hn : a.length = n) (p q : Option Addr) (c d : Nat) (w : World) (ha : Bls w p c a) (hb : Bls w q d a) (hl : n ≤ 1000000) :
    Calls Try.prog 19 #[.slice p n c, .slice q n d] w fun e w' => e = .returned (.bool true) ∧ ∃ x, w' = w.drewN x := by
  have := bools_any a a n n hn hn p q c d w ha hb hl hl
  rw [decide_eq_true rfl] at this; exact this
theorem ex_put : doC ⟨1, [5], [7]⟩ ⟨2, 0, 5, 9⟩ = (⟨1, [5], [7]⟩, 0, false) := by decide
theorem ex_del : doC ⟨1, [5], [7]⟩ ⟨3, 0, 5, 0⟩ = (⟨1, [], []⟩, 0, true) := by decide
theorem ex_get0 : doC ⟨1, [], []⟩ ⟨1, 0, 5, 0⟩ = (⟨1, [], []⟩, 0, false) := by decide
theorem ex_get : doC ⟨1, [5], [7]⟩ ⟨1, 0, 5, 0⟩ = (⟨1, [5], [7]⟩, 7, true) := by decide
theorem ex_stack : allC ⟨2, [], []⟩ [⟨4, 0, 1, 0⟩, ⟨4, 0, 2, 0⟩, ⟨5, 0, 0, 0⟩] = (⟨2, [], [1]⟩, [0, 0, 2], [true, true, true]) := by decide
theorem ex_chan : allC ⟨3, [], []⟩ [⟨6, 0, 1, 0⟩, ⟨6, 0, 2, 0⟩, ⟨7, 0, 0, 0⟩] = (⟨3, [], [2]⟩, [0, 0, 1], [true, true, true]) := by decide
theorem ex_right : rightC ⟨2, [], [1]⟩ = true := by decide

set_option maxRecDepth 100000 in
set_option maxHeartbeats 8000000 in
theorem awake_any (w : World) : Calls Try.prog 8 #[] w fun e w' => e = .returned (.bool true) ∧ Below w.heap.size w w' := by
  obtain ⟨V0, hV⟩ : ∃ V, V = ((w.alloc (Obj.cells #[.int .i64 5] 3)).alloc (Obj.cells #[.int .i64 7] 3)).alloc (Obj.cells #[.int .i64 1, .slice (some ⟨w.heap.size, 0, none⟩) 1 1, .slice (some ⟨w.heap.size + 1, 0, none⟩) 1 1] 24) := ⟨_, rfl⟩
  have hB : Below w.heap.size w V0 := by rw [hV]; exact below_alloc3 w _ _ _
  have KM : Blk V0 (w.heap.size + 1 + 1) 24 #[.int .i64 1, .slice (some ⟨w.heap.size, 0, none⟩) 1 1, .slice (some ⟨w.heap.size + 1, 0, none⟩) 1 1] := by rw [hV]; exact Blk.made2 w _ _ _ _
  have N1 : Nums V0 (some ⟨w.heap.size, 0, none⟩) 1 [5] := Nums.blk (t := 3) (cs := #[.int .i64 5]) (by rw [hV]; exact ((Blk.made w _ _).alloc _).alloc _) rfl rfl (by omega)
  have N2 : Nums V0 (some ⟨w.heap.size + 1, 0, none⟩) 1 [7] := Nums.blk (t := 3) (cs := #[.int .i64 7]) (by rw [hV]; exact (Blk.made1 w _ _ _).alloc _) rfl rfl (by omega)
  have HV := Lib.hid hV
  clear hV
  go_enter Try.func8, Try.ntmps8
  go_wp2_with fail
  rw [← HV.out]
  clear HV
  refine (do_at ⟨1, [5], [7]⟩ ⟨2, 0, 5, 9⟩ _ _ _ _ _ ex_put 1 1 rfl rfl _ _ _ _ _ N1 N2 (by omega) (by omega) 1 1 rfl rfl).mono ?_
  rintro e w0 ⟨kp0, kc0, vp0, vc0, rfl, nk0, nv0, hb0⟩
  replace KM := KM.later hb0
  replace N1 := N1.later hb0
  replace N2 := N2.later hb0
  replace hB := hB.trans (hb0.mono hB.size)
  clear hb0
  have c0 : World.cell? w0 ⟨w.heap.size + 1 + 1, 0, none⟩ = some (.int .i64 1) := KM.cell 0
  have c1 : World.cell? w0 ⟨w.heap.size + 1 + 1, 1, none⟩ = some (.slice (some ⟨w.heap.size, 0, none⟩) 1 1) := KM.cell 1
  have c2 : World.cell? w0 ⟨w.heap.size + 1 + 1, 2, none⟩ = some (.slice (some ⟨w.heap.size + 1, 0, none⟩) 1 1) := KM.cell 2
  have cl := KM.lt
  obtain ⟨V1, hV⟩ : ∃ V, V = w0.alloc (Obj.cells #[.int .i64 1, .slice kp0 1 kc0, .slice vp0 1 vc0] 24) := ⟨_, rfl⟩
  have B2 : Blk V1 w0.heap.size 24 #[.int .i64 1, .slice kp0 1 kc0, .slice vp0 1 vc0] := by rw [hV]; exact Blk.made _ _ _
  have hbv : Below w0.heap.size w0 V1 := by rw [hV]; exact below_alloc1 _ _
  replace KM := KM.later hbv
  replace N1 := N1.later hbv
  replace N2 := N2.later hbv
  replace nk0 := nk0.later hbv
  replace nv0 := nv0.later hbv
  replace hB := hB.trans (hbv.mono hB.size)
  have HV := Lib.hid hV
  clear hV hbv
  have HKM := Lib.hid KM
  have HN1 := Lib.hid N1
  have HN2 := Lib.hid N2
  have Hnk0 := Lib.hid nk0
  have Hnv0 := Lib.hid nv0
  have HB2 := Lib.hid B2
  have HhB := Lib.hid hB
  clear KM N1 N2 nk0 nv0 B2 hB
  go_wp2_with fail
  clear c0 c1 c2 cl
  rw [← HV.out]
  clear HV
  have KM := HKM.out
  have N1 := HN1.out
  have N2 := HN2.out
  have nk0 := Hnk0.out
  have nv0 := Hnv0.out
  have B2 := HB2.out
  have hB := HhB.out
  clear HKM HN1 HN2 Hnk0 Hnv0 HB2 HhB
  refine (do_at ⟨1, [5], [7]⟩ ⟨3, 0, 5, 0⟩ _ _ _ _ _ ex_del 1 1 rfl rfl _ _ _ _ _ N1 N2 (by omega) (by omega) 0 0 rfl rfl).mono ?_
  rintro e w1 ⟨kp1, kc1, vp1, vc1, rfl, nk1, nv1, hb1⟩
  replace KM := KM.later hb1
  replace N1 := N1.later hb1
  replace N2 := N2.later hb1
  replace nk0 := nk0.later hb1
  replace nv0 := nv0.later hb1
  replace B2 := B2.later hb1
  replace hB := hB.trans (hb1.mono hB.size)
  clear hb1
  have c0 : World.cell? w1 ⟨w.heap.size + 1 + 1, 0, none⟩ = some (.int .i64 1) := KM.cell 0
  have c1 : World.cell? w1 ⟨w.heap.size + 1 + 1, 1, none⟩ = some (.slice (some ⟨w.heap.size, 0, none⟩) 1 1) := KM.cell 1
  have c2 : World.cell? w1 ⟨w.heap.size + 1 + 1, 2, none⟩ = some (.slice (some ⟨w.heap.size + 1, 0, none⟩) 1 1) := KM.cell 2
  have cl := KM.lt
  obtain ⟨V2, hV⟩ : ∃ V, V = w1.alloc (Obj.cells #[.int .i64 1, .slice kp1 0 kc1, .slice vp1 0 vc1] 24) := ⟨_, rfl⟩
  have B5 : Blk V2 w1.heap.size 24 #[.int .i64 1, .slice kp1 0 kc1, .slice vp1 0 vc1] := by rw [hV]; exact Blk.made _ _ _
  have hbv : Below w1.heap.size w1 V2 := by rw [hV]; exact below_alloc1 _ _
  replace KM := KM.later hbv
  replace N1 := N1.later hbv
  replace N2 := N2.later hbv
  replace nk0 := nk0.later hbv
  replace nv0 := nv0.later hbv
  replace B2 := B2.later hbv
  replace nk1 := nk1.later hbv
  replace nv1 := nv1.later hbv
  replace hB := hB.trans (hbv.mono hB.size)
  have HV := Lib.hid hV
  clear hV hbv
  have HKM := Lib.hid KM
  have HN1 := Lib.hid N1
  have HN2 := Lib.hid N2
  have Hnk0 := Lib.hid nk0
  have Hnv0 := Lib.hid nv0
  have HB2 := Lib.hid B2
  have Hnk1 := Lib.hid nk1
  have Hnv1 := Lib.hid nv1
  have HB5 := Lib.hid B5
  have HhB := Lib.hid hB
  clear KM N1 N2 nk0 nv0 B2 nk1 nv1 B5 hB
  go_wp2_with fail
  clear c0 c1 c2 cl
  rw [← HV.out]
  clear HV
  have KM := HKM.out
  have N1 := HN1.out
  have N2 := HN2.out
  have nk0 := Hnk0.out
  have nv0 := Hnv0.out
  have B2 := HB2.out
  have nk1 := Hnk1.out
  have nv1 := Hnv1.out
  have B5 := HB5.out
  have hB := HhB.out
  clear HKM HN1 HN2 Hnk0 Hnv0 HB2 Hnk1 Hnv1 HB5 HhB
  refine (do_at ⟨1, [], []⟩ ⟨1, 0, 5, 0⟩ _ _ _ _ _ ex_get0 0 0 rfl rfl _ _ _ _ _ nk1 nv1 (by omega) (by omega) 0 0 rfl rfl).mono ?_
  rintro e w2 ⟨kp2, kc2, vp2, vc2, rfl, -, -, hb2⟩
  replace KM := KM.later hb2
  replace N1 := N1.later hb2
  replace N2 := N2.later hb2
  replace nk0 := nk0.later hb2
  replace nv0 := nv0.later hb2
  replace B2 := B2.later hb2
  replace nk1 := nk1.later hb2
  replace nv1 := nv1.later hb2
  replace B5 := B5.later hb2
  replace hB := hB.trans (hb2.mono hB.size)
  clear hb2
  have c0 : World.cell? w2 ⟨w.heap.size + 1 + 1, 0, none⟩ = some (.int .i64 1) := KM.cell 0
  have c1 : World.cell? w2 ⟨w.heap.size + 1 + 1, 1, none⟩ = some (.slice (some ⟨w.heap.size, 0, none⟩) 1 1) := KM.cell 1
  have c2 : World.cell? w2 ⟨w.heap.size + 1 + 1, 2, none⟩ = some (.slice (some ⟨w.heap.size + 1, 0, none⟩) 1 1) := KM.cell 2
  have cl := KM.lt
  have HKM := Lib.hid KM
  have HN1 := Lib.hid N1
  have HN2 := Lib.hid N2
  have Hnk0 := Lib.hid nk0
  have Hnv0 := Lib.hid nv0
  have HB2 := Lib.hid B2
  have Hnk1 := Lib.hid nk1
  have Hnv1 := Lib.hid nv1
  have HB5 := Lib.hid B5
  have HhB := Lib.hid hB
  clear KM N1 N2 nk0 nv0 B2 nk1 nv1 B5 hB
  go_wp2_with fail
  clear c0 c1 c2 cl
  have KM := HKM.out
  have N1 := HN1.out
  have N2 := HN2.out
  have nk0 := Hnk0.out
  have nv0 := Hnv0.out
  have B2 := HB2.out
  have nk1 := Hnk1.out
  have nv1 := Hnv1.out
  have B5 := HB5.out
  have hB := HhB.out
  clear HKM HN1 HN2 Hnk0 Hnv0 HB2 Hnk1 Hnv1 HB5 HhB
  refine (do_at ⟨1, [5], [7]⟩ ⟨1, 0, 5, 0⟩ _ _ _ _ _ ex_get 1 1 rfl rfl _ _ _ _ _ N1 N2 (by omega) (by omega) 1 1 rfl rfl).mono ?_
  rintro e w3 ⟨kp3, kc3, vp3, vc3, rfl, nk3, nv3, hb3⟩
  replace KM := KM.later hb3
  replace N1 := N1.later hb3
  replace N2 := N2.later hb3
  replace nk0 := nk0.later hb3
  replace nv0 := nv0.later hb3
  replace B2 := B2.later hb3
  replace nk1 := nk1.later hb3
  replace nv1 := nv1.later hb3
  replace B5 := B5.later hb3
  replace hB := hB.trans (hb3.mono hB.size)
  clear hb3
  obtain ⟨V4, hV⟩ : ∃ V, V = w3.alloc (Obj.cells #[.int .i64 1, .slice kp3 1 kc3, .slice vp3 1 vc3] 24) := ⟨_, rfl⟩
  have B10 : Blk V4 w3.heap.size 24 #[.int .i64 1, .slice kp3 1 kc3, .slice vp3 1 vc3] := by rw [hV]; exact Blk.made _ _ _
  have hbv : Below w3.heap.size w3 V4 := by rw [hV]; exact below_alloc1 _ _
  replace KM := KM.later hbv
  replace N1 := N1.later hbv
  replace N2 := N2.later hbv
  replace nk0 := nk0.later hbv
  replace nv0 := nv0.later hbv
  replace B2 := B2.later hbv
  replace nk1 := nk1.later hbv
  replace nv1 := nv1.later hbv
  replace B5 := B5.later hbv
  replace nk3 := nk3.later hbv
  replace nv3 := nv3.later hbv
  replace hB := hB.trans (hbv.mono hB.size)
  have HV := Lib.hid hV
  clear hV hbv
  have HKM := Lib.hid KM
  have HN1 := Lib.hid N1
  have HN2 := Lib.hid N2
  have Hnk0 := Lib.hid nk0
  have Hnv0 := Lib.hid nv0
  have HB2 := Lib.hid B2
  have Hnk1 := Lib.hid nk1
  have Hnv1 := Lib.hid nv1
  have HB5 := Lib.hid B5
  have Hnk3 := Lib.hid nk3
  have Hnv3 := Lib.hid nv3
  have HB10 := Lib.hid B10
  have HhB := Lib.hid hB
  clear KM N1 N2 nk0 nv0 B2 nk1 nv1 B5 nk3 nv3 B10 hB
  go_wp2_with fail
  rw [← HV.out]
  clear HV
  have KM := HKM.out
  have N1 := HN1.out
  have N2 := HN2.out
  have nk0 := Hnk0.out
  have nv0 := Hnv0.out
  have B2 := HB2.out
  have nk1 := Hnk1.out
  have nv1 := Hnv1.out
  have B5 := HB5.out
  have nk3 := Hnk3.out
  have nv3 := Hnv3.out
  have B10 := HB10.out
  have hB := HhB.out
  clear HKM HN1 HN2 Hnk0 Hnv0 HB2 Hnk1 Hnv1 HB5 Hnk3 Hnv3 HB10 HhB
  refine (new_any 2 _).mono ?_
  rintro e w4 ⟨rfl, hb4⟩
  replace KM := KM.later hb4
  replace N1 := N1.later hb4
  replace N2 := N2.later hb4
  replace nk0 := nk0.later hb4
  replace nv0 := nv0.later hb4
  replace B2 := B2.later hb4
  replace nk1 := nk1.later hb4
  replace nv1 := nv1.later hb4
  replace B5 := B5.later hb4
  replace nk3 := nk3.later hb4
  replace nv3 := nv3.later hb4
  replace B10 := B10.later hb4
  replace hB := hB.trans (hb4.mono hB.size)
  clear hb4
  obtain ⟨V5, hV⟩ : ∃ V, V = w4.alloc (Obj.cells #[.int .i64 4, .int .i64 0, .int .i64 1, .int .i64 0, .int .i64 4, .int .i64 0, .int .i64 2, .int .i64 0, .int .i64 5, .int .i64 0, .int .i64 0, .int .i64 0] 26) := ⟨_, rfl⟩
  have hod : Ods V5 (some ⟨w4.heap.size, 0, none⟩) [⟨4, 0, 1, 0⟩, ⟨4, 0, 2, 0⟩, ⟨5, 0, 0, 0⟩] := Ods.of_blk (t := 26) (cs := #[.int .i64 4, .int .i64 0, .int .i64 1, .int .i64 0, .int .i64 4, .int .i64 0, .int .i64 2, .int .i64 0, .int .i64 5, .int .i64 0, .int .i64 0, .int .i64 0]) (by rw [hV]; exact Blk.made _ _ _) rfl
  have hbv : Below w4.heap.size w4 V5 := by rw [hV]; exact below_alloc1 _ _
  replace KM := KM.later hbv
  replace N1 := N1.later hbv
  replace N2 := N2.later hbv
  replace nk0 := nk0.later hbv
  replace nv0 := nv0.later hbv
  replace B2 := B2.later hbv
  replace nk1 := nk1.later hbv
  replace nv1 := nv1.later hbv
  replace B5 := B5.later hbv
  replace nk3 := nk3.later hbv
  replace nv3 := nv3.later hbv
  replace B10 := B10.later hbv
  replace hB := hB.trans (hbv.mono hB.size)
  have HV := Lib.hid hV
  clear hV hbv
  have HKM := Lib.hid KM
  have HN1 := Lib.hid N1
  have HN2 := Lib.hid N2
  have Hnk0 := Lib.hid nk0
  have Hnv0 := Lib.hid nv0
  have HB2 := Lib.hid B2
  have Hnk1 := Lib.hid nk1
  have Hnv1 := Lib.hid nv1
  have HB5 := Lib.hid B5
  have Hnk3 := Lib.hid nk3
  have Hnv3 := Lib.hid nv3
  have HB10 := Lib.hid B10
  have Hhod := Lib.hid hod
  have HhB := Lib.hid hB
  clear KM N1 N2 nk0 nv0 B2 nk1 nv1 B5 nk3 nv3 B10 hod hB
  go_wp2_with fail
  rw [← HV.out]
  clear HV
  have KM := HKM.out
  have N1 := HN1.out
  have N2 := HN2.out
  have nk0 := Hnk0.out
  have nv0 := Hnv0.out
  have B2 := HB2.out
  have nk1 := Hnk1.out
  have nv1 := Hnv1.out
  have B5 := HB5.out
  have nk3 := Hnk3.out
  have nv3 := Hnv3.out
  have B10 := HB10.out
  have hod := Hhod.out
  have hB := HhB.out
  clear HKM HN1 HN2 Hnk0 Hnv0 HB2 Hnk1 Hnv1 HB5 Hnk3 Hnv3 HB10 Hhod HhB
  refine (all_at ⟨2, [], []⟩ _ 3 rfl _ _ _ _ _ ex_stack 0 0 rfl rfl _ _ _ _ _ _ _ (Nums.nix _) (Nums.nix _) hod (by omega) (by omega) (by omega) 0 1 rfl rfl).mono ?_
  rintro e w5 ⟨kp5, kc5, vp5, vc5, ga5, gb5, rfl, nk5, nv5, nt5, nb5, hb5⟩
  clear hod
  replace KM := KM.later hb5
  replace N1 := N1.later hb5
  replace N2 := N2.later hb5
  replace nk0 := nk0.later hb5
  replace nv0 := nv0.later hb5
  replace B2 := B2.later hb5
  replace nk1 := nk1.later hb5
  replace nv1 := nv1.later hb5
  replace B5 := B5.later hb5
  replace nk3 := nk3.later hb5
  replace nv3 := nv3.later hb5
  replace B10 := B10.later hb5
  replace hB := hB.trans (hb5.mono hB.size)
  clear hb5
  obtain ⟨V6, hV⟩ : ∃ V, V = w5.alloc (Obj.cells #[.int .i64 2, .slice kp5 0 kc5, .slice vp5 1 vc5] 24) := ⟨_, rfl⟩
  have B13 : Blk V6 w5.heap.size 24 #[.int .i64 2, .slice kp5 0 kc5, .slice vp5 1 vc5] := by rw [hV]; exact Blk.made _ _ _
  have hbv : Below w5.heap.size w5 V6 := by rw [hV]; exact below_alloc1 _ _
  replace KM := KM.later hbv
  replace N1 := N1.later hbv
  replace N2 := N2.later hbv
  replace nk0 := nk0.later hbv
  replace nv0 := nv0.later hbv
  replace B2 := B2.later hbv
  replace nk1 := nk1.later hbv
  replace nv1 := nv1.later hbv
  replace B5 := B5.later hbv
  replace nk3 := nk3.later hbv
  replace nv3 := nv3.later hbv
  replace B10 := B10.later hbv
  replace nk5 := nk5.later hbv
  replace nv5 := nv5.later hbv
  replace nt5 := nt5.later hbv
  replace nb5 := nb5.later hbv
  replace hB := hB.trans (hbv.mono hB.size)
  have HV := Lib.hid hV
  clear hV hbv
  have HKM := Lib.hid KM
  have HN1 := Lib.hid N1
  have HN2 := Lib.hid N2
  have Hnk0 := Lib.hid nk0
  have Hnv0 := Lib.hid nv0
  have HB2 := Lib.hid B2
  have Hnk1 := Lib.hid nk1
  have Hnv1 := Lib.hid nv1
  have HB5 := Lib.hid B5
  have Hnk3 := Lib.hid nk3
  have Hnv3 := Lib.hid nv3
  have HB10 := Lib.hid B10
  have Hnk5 := Lib.hid nk5
  have Hnv5 := Lib.hid nv5
  have Hnt5 := Lib.hid nt5
  have Hnb5 := Lib.hid nb5
  have HB13 := Lib.hid B13
  have HhB := Lib.hid hB
  clear KM N1 N2 nk0 nv0 B2 nk1 nv1 B5 nk3 nv3 B10 nk5 nv5 nt5 nb5 B13 hB
  go_wp2_with fail
  rw [← HV.out]
  clear HV
  have KM := HKM.out
  have N1 := HN1.out
  have N2 := HN2.out
  have nk0 := Hnk0.out
  have nv0 := Hnv0.out
  have B2 := HB2.out
  have nk1 := Hnk1.out
  have nv1 := Hnv1.out
  have B5 := HB5.out
  have nk3 := Hnk3.out
  have nv3 := Hnv3.out
  have B10 := HB10.out
  have nk5 := Hnk5.out
  have nv5 := Hnv5.out
  have nt5 := Hnt5.out
  have nb5 := Hnb5.out
  have B13 := HB13.out
  have hB := HhB.out
  clear HKM HN1 HN2 Hnk0 Hnv0 HB2 Hnk1 Hnv1 HB5 Hnk3 Hnv3 HB10 Hnk5 Hnv5 Hnt5 Hnb5 HB13 HhB
  refine (new_any 3 _).mono ?_
  rintro e w6 ⟨rfl, hb6⟩
  replace KM := KM.later hb6
  replace N1 := N1.later hb6
  replace N2 := N2.later hb6
  replace nk0 := nk0.later hb6
  replace nv0 := nv0.later hb6
  replace B2 := B2.later hb6
  replace nk1 := nk1.later hb6
  replace nv1 := nv1.later hb6
  replace B5 := B5.later hb6
  replace nk3 := nk3.later hb6
  replace nv3 := nv3.later hb6
  replace B10 := B10.later hb6
  replace nk5 := nk5.later hb6
  replace nv5 := nv5.later hb6
  replace nt5 := nt5.later hb6
  replace nb5 := nb5.later hb6
  replace B13 := B13.later hb6
  replace hB := hB.trans (hb6.mono hB.size)
  clear hb6
  obtain ⟨V7, hV⟩ : ∃ V, V = w6.alloc (Obj.cells #[.int .i64 6, .int .i64 0, .int .i64 1, .int .i64 0, .int .i64 6, .int .i64 0, .int .i64 2, .int .i64 0, .int .i64 7, .int .i64 0, .int .i64 0, .int .i64 0] 26) := ⟨_, rfl⟩
  have hod : Ods V7 (some ⟨w6.heap.size, 0, none⟩) [⟨6, 0, 1, 0⟩, ⟨6, 0, 2, 0⟩, ⟨7, 0, 0, 0⟩] := Ods.of_blk (t := 26) (cs := #[.int .i64 6, .int .i64 0, .int .i64 1, .int .i64 0, .int .i64 6, .int .i64 0, .int .i64 2, .int .i64 0, .int .i64 7, .int .i64 0, .int .i64 0, .int .i64 0]) (by rw [hV]; exact Blk.made _ _ _) rfl
  have hbv : Below w6.heap.size w6 V7 := by rw [hV]; exact below_alloc1 _ _
  replace KM := KM.later hbv
  replace N1 := N1.later hbv
  replace N2 := N2.later hbv
  replace nk0 := nk0.later hbv
  replace nv0 := nv0.later hbv
  replace B2 := B2.later hbv
  replace nk1 := nk1.later hbv
  replace nv1 := nv1.later hbv
  replace B5 := B5.later hbv
  replace nk3 := nk3.later hbv
  replace nv3 := nv3.later hbv
  replace B10 := B10.later hbv
  replace nk5 := nk5.later hbv
  replace nv5 := nv5.later hbv
  replace nt5 := nt5.later hbv
  replace nb5 := nb5.later hbv
  replace B13 := B13.later hbv
  replace hB := hB.trans (hbv.mono hB.size)
  have HV := Lib.hid hV
  clear hV hbv
  have HKM := Lib.hid KM
  have HN1 := Lib.hid N1
  have HN2 := Lib.hid N2
  have Hnk0 := Lib.hid nk0
  have Hnv0 := Lib.hid nv0
  have HB2 := Lib.hid B2
  have Hnk1 := Lib.hid nk1
  have Hnv1 := Lib.hid nv1
  have HB5 := Lib.hid B5
  have Hnk3 := Lib.hid nk3
  have Hnv3 := Lib.hid nv3
  have HB10 := Lib.hid B10
  have Hnk5 := Lib.hid nk5
  have Hnv5 := Lib.hid nv5
  have Hnt5 := Lib.hid nt5
  have Hnb5 := Lib.hid nb5
  have HB13 := Lib.hid B13
  have Hhod := Lib.hid hod
  have HhB := Lib.hid hB
  clear KM N1 N2 nk0 nv0 B2 nk1 nv1 B5 nk3 nv3 B10 nk5 nv5 nt5 nb5 B13 hod hB
  go_wp2_with fail
  rw [← HV.out]
  clear HV
  have KM := HKM.out
  have N1 := HN1.out
  have N2 := HN2.out
  have nk0 := Hnk0.out
  have nv0 := Hnv0.out
  have B2 := HB2.out
  have nk1 := Hnk1.out
  have nv1 := Hnv1.out
  have B5 := HB5.out
  have nk3 := Hnk3.out
  have nv3 := Hnv3.out
  have B10 := HB10.out
  have nk5 := Hnk5.out
  have nv5 := Hnv5.out
  have nt5 := Hnt5.out
  have nb5 := Hnb5.out
  have B13 := HB13.out
  have hod := Hhod.out
  have hB := HhB.out
  clear HKM HN1 HN2 Hnk0 Hnv0 HB2 Hnk1 Hnv1 HB5 Hnk3 Hnv3 HB10 Hnk5 Hnv5 Hnt5 Hnb5 HB13 Hhod HhB
  refine (all_at ⟨3, [], []⟩ _ 3 rfl _ _ _ _ _ ex_chan 0 0 rfl rfl _ _ _ _ _ _ _ (Nums.nix _) (Nums.nix _) hod (by omega) (by omega) (by omega) 0 1 rfl rfl).mono ?_
  rintro e w7 ⟨kp7, kc7, vp7, vc7, ga7, gb7, rfl, nk7, nv7, nt7, nb7, hb7⟩
  clear hod
  replace KM := KM.later hb7
  replace N1 := N1.later hb7
  replace N2 := N2.later hb7
  replace nk0 := nk0.later hb7
  replace nv0 := nv0.later hb7
  replace B2 := B2.later hb7
  replace nk1 := nk1.later hb7
  replace nv1 := nv1.later hb7
  replace B5 := B5.later hb7
  replace nk3 := nk3.later hb7
  replace nv3 := nv3.later hb7
  replace B10 := B10.later hb7
  replace nk5 := nk5.later hb7
  replace nv5 := nv5.later hb7
  replace nt5 := nt5.later hb7
  replace nb5 := nb5.later hb7
  replace B13 := B13.later hb7
  replace hB := hB.trans (hb7.mono hB.size)
  clear hb7
  have x0 : World.cell? w7 ⟨w5.heap.size, 0, none⟩ = some (.int .i64 2) := B13.cell 0
  have x1 : World.cell? w7 ⟨w5.heap.size, 1, none⟩ = some (.slice kp5 0 kc5) := B13.cell 1
  have x2 : World.cell? w7 ⟨w5.heap.size, 2, none⟩ = some (.slice vp5 1 vc5) := B13.cell 2
  have xl := B13.lt
  obtain ⟨V8, hV⟩ : ∃ V, V = w7.alloc (Obj.cells #[.int .i64 3, .slice kp7 0 kc7, .slice vp7 1 vc7] 24) := ⟨_, rfl⟩
  have B16 : Blk V8 w7.heap.size 24 #[.int .i64 3, .slice kp7 0 kc7, .slice vp7 1 vc7] := by rw [hV]; exact Blk.made _ _ _
  have hbv : Below w7.heap.size w7 V8 := by rw [hV]; exact below_alloc1 _ _
  replace KM := KM.later hbv
  replace N1 := N1.later hbv
  replace N2 := N2.later hbv
  replace nk0 := nk0.later hbv
  replace nv0 := nv0.later hbv
  replace B2 := B2.later hbv
  replace nk1 := nk1.later hbv
  replace nv1 := nv1.later hbv
  replace B5 := B5.later hbv
  replace nk3 := nk3.later hbv
  replace nv3 := nv3.later hbv
  replace B10 := B10.later hbv
  replace nk5 := nk5.later hbv
  replace nv5 := nv5.later hbv
  replace nt5 := nt5.later hbv
  replace nb5 := nb5.later hbv
  replace B13 := B13.later hbv
  replace nk7 := nk7.later hbv
  replace nv7 := nv7.later hbv
  replace nt7 := nt7.later hbv
  replace nb7 := nb7.later hbv
  replace hB := hB.trans (hbv.mono hB.size)
  have HV := Lib.hid hV
  clear hV hbv
  obtain ⟨U8, hU⟩ : ∃ V, V = V8.alloc (Obj.cells #[.int .i64 1] 3) := ⟨_, rfl⟩
  have ns : Nums U8 (some ⟨V8.heap.size, 0, none⟩) 1 [1] := Nums.blk (t := 3) (cs := #[.int .i64 1]) (by rw [hU]; exact Blk.made _ _ _) rfl rfl (by omega)
  have hbv : Below V8.heap.size V8 U8 := by rw [hU]; exact below_alloc1 _ _
  replace KM := KM.later hbv
  replace N1 := N1.later hbv
  replace N2 := N2.later hbv
  replace nk0 := nk0.later hbv
  replace nv0 := nv0.later hbv
  replace B2 := B2.later hbv
  replace nk1 := nk1.later hbv
  replace nv1 := nv1.later hbv
  replace B5 := B5.later hbv
  replace nk3 := nk3.later hbv
  replace nv3 := nv3.later hbv
  replace B10 := B10.later hbv
  replace nk5 := nk5.later hbv
  replace nv5 := nv5.later hbv
  replace nt5 := nt5.later hbv
  replace nb5 := nb5.later hbv
  replace B13 := B13.later hbv
  replace nk7 := nk7.later hbv
  replace nv7 := nv7.later hbv
  replace nt7 := nt7.later hbv
  replace nb7 := nb7.later hbv
  replace B16 := B16.later hbv
  replace hB := hB.trans (hbv.mono hB.size)
  rw [show V8.heap.size = w7.heap.size + 1 from by rw [HV.out]; simp] at ns
  have HU := Lib.hid hU
  clear hU hbv
  have HKM := Lib.hid KM
  have HN1 := Lib.hid N1
  have HN2 := Lib.hid N2
  have Hnk0 := Lib.hid nk0
  have Hnv0 := Lib.hid nv0
  have HB2 := Lib.hid B2
  have Hnk1 := Lib.hid nk1
  have Hnv1 := Lib.hid nv1
  have HB5 := Lib.hid B5
  have Hnk3 := Lib.hid nk3
  have Hnv3 := Lib.hid nv3
  have HB10 := Lib.hid B10
  have Hnk5 := Lib.hid nk5
  have Hnv5 := Lib.hid nv5
  have Hnt5 := Lib.hid nt5
  have Hnb5 := Lib.hid nb5
  have HB13 := Lib.hid B13
  have Hnk7 := Lib.hid nk7
  have Hnv7 := Lib.hid nv7
  have Hnt7 := Lib.hid nt7
  have Hnb7 := Lib.hid nb7
  have HB16 := Lib.hid B16
  have Hns := Lib.hid ns
  have HhB := Lib.hid hB
  clear KM N1 N2 nk0 nv0 B2 nk1 nv1 B5 nk3 nv3 B10 nk5 nv5 nt5 nb5 B13 nk7 nv7 nt7 nb7 B16 ns hB
  go_wp2_with fail
  rw [← HV.out]
  skip
  rw [← HU.out]
  clear HU
  have KM := HKM.out
  have N1 := HN1.out
  have N2 := HN2.out
  have nk0 := Hnk0.out
  have nv0 := Hnv0.out
  have B2 := HB2.out
  have nk1 := Hnk1.out
  have nv1 := Hnv1.out
  have B5 := HB5.out
  have nk3 := Hnk3.out
  have nv3 := Hnv3.out
  have B10 := HB10.out
  have nk5 := Hnk5.out
  have nv5 := Hnv5.out
  have nt5 := Hnt5.out
  have nb5 := Hnb5.out
  have B13 := HB13.out
  have nk7 := Hnk7.out
  have nv7 := Hnv7.out
  have nt7 := Hnt7.out
  have nb7 := Hnb7.out
  have B16 := HB16.out
  have ns := Hns.out
  have hB := HhB.out
  clear HKM HN1 HN2 Hnk0 Hnv0 HB2 Hnk1 Hnv1 HB5 Hnk3 Hnv3 HB10 Hnk5 Hnv5 Hnt5 Hnb5 HB13 Hnk7 Hnv7 Hnt7 Hnb7 HB16 Hns HhB
  refine (ints_t [1] 1 rfl _ _ _ _ _ nv5 ns (by omega)).mono ?_
  rintro e w8 ⟨rfl, x8, rfl⟩
  clear ns
  have hbd := below_drewN (Below.refl U8.heap.size U8) x8
  obtain ⟨V9, hV⟩ : ∃ V, V = U8.drewN x8 := ⟨_, rfl⟩
  rw [← hV] at hbd
  rw [← hV]
  replace KM := KM.later hbd
  replace N1 := N1.later hbd
  replace N2 := N2.later hbd
  replace nk0 := nk0.later hbd
  replace nv0 := nv0.later hbd
  replace B2 := B2.later hbd
  replace nk1 := nk1.later hbd
  replace nv1 := nv1.later hbd
  replace B5 := B5.later hbd
  replace nk3 := nk3.later hbd
  replace nv3 := nv3.later hbd
  replace B10 := B10.later hbd
  replace nk5 := nk5.later hbd
  replace nv5 := nv5.later hbd
  replace nt5 := nt5.later hbd
  replace nb5 := nb5.later hbd
  replace B13 := B13.later hbd
  replace nk7 := nk7.later hbd
  replace nv7 := nv7.later hbd
  replace nt7 := nt7.later hbd
  replace nb7 := nb7.later hbd
  replace B16 := B16.later hbd
  replace hB := hB.trans (hbd.mono hB.size)
  clear hbd hV
  clear x0 x1 x2 xl
  obtain ⟨U10, hU⟩ : ∃ V, V = V9.alloc (Obj.cells #[.int .i64 0, .int .i64 0, .int .i64 2] 3) := ⟨_, rfl⟩
  have ns : Nums U10 (some ⟨V9.heap.size, 0, none⟩) 3 [0, 0, 2] := Nums.blk (t := 3) (cs := #[.int .i64 0, .int .i64 0, .int .i64 2]) (by rw [hU]; exact Blk.made _ _ _) rfl rfl (by omega)
  have hbv : Below V9.heap.size V9 U10 := by rw [hU]; exact below_alloc1 _ _
  replace KM := KM.later hbv
  replace N1 := N1.later hbv
  replace N2 := N2.later hbv
  replace nk0 := nk0.later hbv
  replace nv0 := nv0.later hbv
  replace B2 := B2.later hbv
  replace nk1 := nk1.later hbv
  replace nv1 := nv1.later hbv
  replace B5 := B5.later hbv
  replace nk3 := nk3.later hbv
  replace nv3 := nv3.later hbv
  replace B10 := B10.later hbv
  replace nk5 := nk5.later hbv
  replace nv5 := nv5.later hbv
  replace nt5 := nt5.later hbv
  replace nb5 := nb5.later hbv
  replace B13 := B13.later hbv
  replace nk7 := nk7.later hbv
  replace nv7 := nv7.later hbv
  replace nt7 := nt7.later hbv
  replace nb7 := nb7.later hbv
  replace B16 := B16.later hbv
  replace hB := hB.trans (hbv.mono hB.size)
  have HU := Lib.hid hU
  clear hU hbv
  have HKM := Lib.hid KM
  have HN1 := Lib.hid N1
  have HN2 := Lib.hid N2
  have Hnk0 := Lib.hid nk0
  have Hnv0 := Lib.hid nv0
  have HB2 := Lib.hid B2
  have Hnk1 := Lib.hid nk1
  have Hnv1 := Lib.hid nv1
  have HB5 := Lib.hid B5
  have Hnk3 := Lib.hid nk3
  have Hnv3 := Lib.hid nv3
  have HB10 := Lib.hid B10
  have Hnk5 := Lib.hid nk5
  have Hnv5 := Lib.hid nv5
  have Hnt5 := Lib.hid nt5
  have Hnb5 := Lib.hid nb5
  have HB13 := Lib.hid B13
  have Hnk7 := Lib.hid nk7
  have Hnv7 := Lib.hid nv7
  have Hnt7 := Lib.hid nt7
  have Hnb7 := Lib.hid nb7
  have HB16 := Lib.hid B16
  have Hns := Lib.hid ns
  have HhB := Lib.hid hB
  clear KM N1 N2 nk0 nv0 B2 nk1 nv1 B5 nk3 nv3 B10 nk5 nv5 nt5 nb5 B13 nk7 nv7 nt7 nb7 B16 ns hB
  go_wp2_with fail
  rw [← HU.out]
  clear HU
  have KM := HKM.out
  have N1 := HN1.out
  have N2 := HN2.out
  have nk0 := Hnk0.out
  have nv0 := Hnv0.out
  have B2 := HB2.out
  have nk1 := Hnk1.out
  have nv1 := Hnv1.out
  have B5 := HB5.out
  have nk3 := Hnk3.out
  have nv3 := Hnv3.out
  have B10 := HB10.out
  have nk5 := Hnk5.out
  have nv5 := Hnv5.out
  have nt5 := Hnt5.out
  have nb5 := Hnb5.out
  have B13 := HB13.out
  have nk7 := Hnk7.out
  have nv7 := Hnv7.out
  have nt7 := Hnt7.out
  have nb7 := Hnb7.out
  have B16 := HB16.out
  have ns := Hns.out
  have hB := HhB.out
  clear HKM HN1 HN2 Hnk0 Hnv0 HB2 Hnk1 Hnv1 HB5 Hnk3 Hnv3 HB10 Hnk5 Hnv5 Hnt5 Hnb5 HB13 Hnk7 Hnv7 Hnt7 Hnb7 HB16 Hns HhB
  refine (ints_t [0, 0, 2] 3 rfl _ _ _ _ _ nt5 ns (by omega)).mono ?_
  rintro e w10 ⟨rfl, x10, rfl⟩
  clear ns
  have hbd := below_drewN (Below.refl U10.heap.size U10) x10
  obtain ⟨V11, hV⟩ : ∃ V, V = U10.drewN x10 := ⟨_, rfl⟩
  rw [← hV] at hbd
  rw [← hV]
  replace KM := KM.later hbd
  replace N1 := N1.later hbd
  replace N2 := N2.later hbd
  replace nk0 := nk0.later hbd
  replace nv0 := nv0.later hbd
  replace B2 := B2.later hbd
  replace nk1 := nk1.later hbd
  replace nv1 := nv1.later hbd
  replace B5 := B5.later hbd
  replace nk3 := nk3.later hbd
  replace nv3 := nv3.later hbd
  replace B10 := B10.later hbd
  replace nk5 := nk5.later hbd
  replace nv5 := nv5.later hbd
  replace nt5 := nt5.later hbd
  replace nb5 := nb5.later hbd
  replace B13 := B13.later hbd
  replace nk7 := nk7.later hbd
  replace nv7 := nv7.later hbd
  replace nt7 := nt7.later hbd
  replace nb7 := nb7.later hbd
  replace B16 := B16.later hbd
  replace hB := hB.trans (hbd.mono hB.size)
  clear hbd hV
  obtain ⟨U12, hU⟩ : ∃ V, V = V11.alloc (Obj.cells #[.bool true, .bool true, .bool true] 4) := ⟨_, rfl⟩
  have ns : Bls U12 (some ⟨V11.heap.size, 0, none⟩) 3 [true, true, true] := Bls.blk (t := 4) (cs := #[.bool true, .bool true, .bool true]) (by rw [hU]; exact Blk.made _ _ _) rfl
  have hbv : Below V11.heap.size V11 U12 := by rw [hU]; exact below_alloc1 _ _
  replace KM := KM.later hbv
  replace N1 := N1.later hbv
  replace N2 := N2.later hbv
  replace nk0 := nk0.later hbv
  replace nv0 := nv0.later hbv
  replace B2 := B2.later hbv
  replace nk1 := nk1.later hbv
  replace nv1 := nv1.later hbv
  replace B5 := B5.later hbv
  replace nk3 := nk3.later hbv
  replace nv3 := nv3.later hbv
  replace B10 := B10.later hbv
  replace nk5 := nk5.later hbv
  replace nv5 := nv5.later hbv
  replace nt5 := nt5.later hbv
  replace nb5 := nb5.later hbv
  replace B13 := B13.later hbv
  replace nk7 := nk7.later hbv
  replace nv7 := nv7.later hbv
  replace nt7 := nt7.later hbv
  replace nb7 := nb7.later hbv
  replace B16 := B16.later hbv
  replace hB := hB.trans (hbv.mono hB.size)
  have HU := Lib.hid hU
  clear hU hbv
  have HKM := Lib.hid KM
  have HN1 := Lib.hid N1
  have HN2 := Lib.hid N2
  have Hnk0 := Lib.hid nk0
  have Hnv0 := Lib.hid nv0
  have HB2 := Lib.hid B2
  have Hnk1 := Lib.hid nk1
  have Hnv1 := Lib.hid nv1
  have HB5 := Lib.hid B5
  have Hnk3 := Lib.hid nk3
  have Hnv3 := Lib.hid nv3
  have HB10 := Lib.hid B10
  have Hnk5 := Lib.hid nk5
  have Hnv5 := Lib.hid nv5
  have Hnt5 := Lib.hid nt5
  have Hnb5 := Lib.hid nb5
  have HB13 := Lib.hid B13
  have Hnk7 := Lib.hid nk7
  have Hnv7 := Lib.hid nv7
  have Hnt7 := Lib.hid nt7
  have Hnb7 := Lib.hid nb7
  have HB16 := Lib.hid B16
  have Hns := Lib.hid ns
  have HhB := Lib.hid hB
  clear KM N1 N2 nk0 nv0 B2 nk1 nv1 B5 nk3 nv3 B10 nk5 nv5 nt5 nb5 B13 nk7 nv7 nt7 nb7 B16 ns hB
  go_wp2_with fail
  rw [← HU.out]
  clear HU
  have KM := HKM.out
  have N1 := HN1.out
  have N2 := HN2.out
  have nk0 := Hnk0.out
  have nv0 := Hnv0.out
  have B2 := HB2.out
  have nk1 := Hnk1.out
  have nv1 := Hnv1.out
  have B5 := HB5.out
  have nk3 := Hnk3.out
  have nv3 := Hnv3.out
  have B10 := HB10.out
  have nk5 := Hnk5.out
  have nv5 := Hnv5.out
  have nt5 := Hnt5.out
  have nb5 := Hnb5.out
  have B13 := HB13.out
  have nk7 := Hnk7.out
  have nv7 := Hnv7.out
  have nt7 := Hnt7.out
  have nb7 := Hnb7.out
  have B16 := HB16.out
  have ns := Hns.out
  have hB := HhB.out
  clear HKM HN1 HN2 Hnk0 Hnv0 HB2 Hnk1 Hnv1 HB5 Hnk3 Hnv3 HB10 Hnk5 Hnv5 Hnt5 Hnb5 HB13 Hnk7 Hnv7 Hnt7 Hnb7 HB16 Hns HhB
  refine (bools_t [true, true, true] 3 rfl _ _ _ _ _ nb5 ns (by omega)).mono ?_
  rintro e w12 ⟨rfl, x12, rfl⟩
  clear ns
  have hbd := below_drewN (Below.refl U12.heap.size U12) x12
  obtain ⟨V13, hV⟩ : ∃ V, V = U12.drewN x12 := ⟨_, rfl⟩
  rw [← hV] at hbd
  rw [← hV]
  replace KM := KM.later hbd
  replace N1 := N1.later hbd
  replace N2 := N2.later hbd
  replace nk0 := nk0.later hbd
  replace nv0 := nv0.later hbd
  replace B2 := B2.later hbd
  replace nk1 := nk1.later hbd
  replace nv1 := nv1.later hbd
  replace B5 := B5.later hbd
  replace nk3 := nk3.later hbd
  replace nv3 := nv3.later hbd
  replace B10 := B10.later hbd
  replace nk5 := nk5.later hbd
  replace nv5 := nv5.later hbd
  replace nt5 := nt5.later hbd
  replace nb5 := nb5.later hbd
  replace B13 := B13.later hbd
  replace nk7 := nk7.later hbd
  replace nv7 := nv7.later hbd
  replace nt7 := nt7.later hbd
  replace nb7 := nb7.later hbd
  replace B16 := B16.later hbd
  replace hB := hB.trans (hbd.mono hB.size)
  clear hbd hV
  have c0 : World.cell? V13 ⟨w7.heap.size, 0, none⟩ = some (.int .i64 3) := B16.cell 0
  have c1 : World.cell? V13 ⟨w7.heap.size, 1, none⟩ = some (.slice kp7 0 kc7) := B16.cell 1
  have c2 : World.cell? V13 ⟨w7.heap.size, 2, none⟩ = some (.slice vp7 1 vc7) := B16.cell 2
  have cl := B16.lt
  obtain ⟨U14, hU⟩ : ∃ V, V = V13.alloc (Obj.cells #[.int .i64 2] 3) := ⟨_, rfl⟩
  have ns : Nums U14 (some ⟨V13.heap.size, 0, none⟩) 1 [2] := Nums.blk (t := 3) (cs := #[.int .i64 2]) (by rw [hU]; exact Blk.made _ _ _) rfl rfl (by omega)
  have hbv : Below V13.heap.size V13 U14 := by rw [hU]; exact below_alloc1 _ _
  replace KM := KM.later hbv
  replace N1 := N1.later hbv
  replace N2 := N2.later hbv
  replace nk0 := nk0.later hbv
  replace nv0 := nv0.later hbv
  replace B2 := B2.later hbv
  replace nk1 := nk1.later hbv
  replace nv1 := nv1.later hbv
  replace B5 := B5.later hbv
  replace nk3 := nk3.later hbv
  replace nv3 := nv3.later hbv
  replace B10 := B10.later hbv
  replace nk5 := nk5.later hbv
  replace nv5 := nv5.later hbv
  replace nt5 := nt5.later hbv
  replace nb5 := nb5.later hbv
  replace B13 := B13.later hbv
  replace nk7 := nk7.later hbv
  replace nv7 := nv7.later hbv
  replace nt7 := nt7.later hbv
  replace nb7 := nb7.later hbv
  replace B16 := B16.later hbv
  replace hB := hB.trans (hbv.mono hB.size)
  have HU := Lib.hid hU
  clear hU hbv
  have HKM := Lib.hid KM
  have HN1 := Lib.hid N1
  have HN2 := Lib.hid N2
  have Hnk0 := Lib.hid nk0
  have Hnv0 := Lib.hid nv0
  have HB2 := Lib.hid B2
  have Hnk1 := Lib.hid nk1
  have Hnv1 := Lib.hid nv1
  have HB5 := Lib.hid B5
  have Hnk3 := Lib.hid nk3
  have Hnv3 := Lib.hid nv3
  have HB10 := Lib.hid B10
  have Hnk5 := Lib.hid nk5
  have Hnv5 := Lib.hid nv5
  have Hnt5 := Lib.hid nt5
  have Hnb5 := Lib.hid nb5
  have HB13 := Lib.hid B13
  have Hnk7 := Lib.hid nk7
  have Hnv7 := Lib.hid nv7
  have Hnt7 := Lib.hid nt7
  have Hnb7 := Lib.hid nb7
  have HB16 := Lib.hid B16
  have Hns := Lib.hid ns
  have HhB := Lib.hid hB
  clear KM N1 N2 nk0 nv0 B2 nk1 nv1 B5 nk3 nv3 B10 nk5 nv5 nt5 nb5 B13 nk7 nv7 nt7 nb7 B16 ns hB
  go_wp2_with fail
  clear c0 c1 c2 cl
  rw [← HU.out]
  clear HU
  have KM := HKM.out
  have N1 := HN1.out
  have N2 := HN2.out
  have nk0 := Hnk0.out
  have nv0 := Hnv0.out
  have B2 := HB2.out
  have nk1 := Hnk1.out
  have nv1 := Hnv1.out
  have B5 := HB5.out
  have nk3 := Hnk3.out
  have nv3 := Hnv3.out
  have B10 := HB10.out
  have nk5 := Hnk5.out
  have nv5 := Hnv5.out
  have nt5 := Hnt5.out
  have nb5 := Hnb5.out
  have B13 := HB13.out
  have nk7 := Hnk7.out
  have nv7 := Hnv7.out
  have nt7 := Hnt7.out
  have nb7 := Hnb7.out
  have B16 := HB16.out
  have ns := Hns.out
  have hB := HhB.out
  clear HKM HN1 HN2 Hnk0 Hnv0 HB2 Hnk1 Hnv1 HB5 Hnk3 Hnv3 HB10 Hnk5 Hnv5 Hnt5 Hnb5 HB13 Hnk7 Hnv7 Hnt7 Hnb7 HB16 Hns HhB
  refine (ints_t [2] 1 rfl _ _ _ _ _ nv7 ns (by omega)).mono ?_
  rintro e w14 ⟨rfl, x14, rfl⟩
  clear ns
  have hbd := below_drewN (Below.refl U14.heap.size U14) x14
  obtain ⟨V15, hV⟩ : ∃ V, V = U14.drewN x14 := ⟨_, rfl⟩
  rw [← hV] at hbd
  rw [← hV]
  replace KM := KM.later hbd
  replace N1 := N1.later hbd
  replace N2 := N2.later hbd
  replace nk0 := nk0.later hbd
  replace nv0 := nv0.later hbd
  replace B2 := B2.later hbd
  replace nk1 := nk1.later hbd
  replace nv1 := nv1.later hbd
  replace B5 := B5.later hbd
  replace nk3 := nk3.later hbd
  replace nv3 := nv3.later hbd
  replace B10 := B10.later hbd
  replace nk5 := nk5.later hbd
  replace nv5 := nv5.later hbd
  replace nt5 := nt5.later hbd
  replace nb5 := nb5.later hbd
  replace B13 := B13.later hbd
  replace nk7 := nk7.later hbd
  replace nv7 := nv7.later hbd
  replace nt7 := nt7.later hbd
  replace nb7 := nb7.later hbd
  replace B16 := B16.later hbd
  replace hB := hB.trans (hbd.mono hB.size)
  clear hbd hV
  have d0 : World.cell? V15 ⟨w5.heap.size, 0, none⟩ = some (.int .i64 2) := B13.cell 0
  have d1 : World.cell? V15 ⟨w5.heap.size, 1, none⟩ = some (.slice kp5 0 kc5) := B13.cell 1
  have d2 : World.cell? V15 ⟨w5.heap.size, 2, none⟩ = some (.slice vp5 1 vc5) := B13.cell 2
  have dl := B13.lt
  obtain ⟨U16, hU⟩ : ∃ V, V = V15.alloc (Obj.cells #[.int .i64 0, .int .i64 0, .int .i64 1] 3) := ⟨_, rfl⟩
  have ns : Nums U16 (some ⟨V15.heap.size, 0, none⟩) 3 [0, 0, 1] := Nums.blk (t := 3) (cs := #[.int .i64 0, .int .i64 0, .int .i64 1]) (by rw [hU]; exact Blk.made _ _ _) rfl rfl (by omega)
  have hbv : Below V15.heap.size V15 U16 := by rw [hU]; exact below_alloc1 _ _
  replace KM := KM.later hbv
  replace N1 := N1.later hbv
  replace N2 := N2.later hbv
  replace nk0 := nk0.later hbv
  replace nv0 := nv0.later hbv
  replace B2 := B2.later hbv
  replace nk1 := nk1.later hbv
  replace nv1 := nv1.later hbv
  replace B5 := B5.later hbv
  replace nk3 := nk3.later hbv
  replace nv3 := nv3.later hbv
  replace B10 := B10.later hbv
  replace nk5 := nk5.later hbv
  replace nv5 := nv5.later hbv
  replace nt5 := nt5.later hbv
  replace nb5 := nb5.later hbv
  replace B13 := B13.later hbv
  replace nk7 := nk7.later hbv
  replace nv7 := nv7.later hbv
  replace nt7 := nt7.later hbv
  replace nb7 := nb7.later hbv
  replace B16 := B16.later hbv
  replace hB := hB.trans (hbv.mono hB.size)
  have HU := Lib.hid hU
  clear hU hbv
  have HKM := Lib.hid KM
  have HN1 := Lib.hid N1
  have HN2 := Lib.hid N2
  have Hnk0 := Lib.hid nk0
  have Hnv0 := Lib.hid nv0
  have HB2 := Lib.hid B2
  have Hnk1 := Lib.hid nk1
  have Hnv1 := Lib.hid nv1
  have HB5 := Lib.hid B5
  have Hnk3 := Lib.hid nk3
  have Hnv3 := Lib.hid nv3
  have HB10 := Lib.hid B10
  have Hnk5 := Lib.hid nk5
  have Hnv5 := Lib.hid nv5
  have Hnt5 := Lib.hid nt5
  have Hnb5 := Lib.hid nb5
  have HB13 := Lib.hid B13
  have Hnk7 := Lib.hid nk7
  have Hnv7 := Lib.hid nv7
  have Hnt7 := Lib.hid nt7
  have Hnb7 := Lib.hid nb7
  have HB16 := Lib.hid B16
  have Hns := Lib.hid ns
  have HhB := Lib.hid hB
  clear KM N1 N2 nk0 nv0 B2 nk1 nv1 B5 nk3 nv3 B10 nk5 nv5 nt5 nb5 B13 nk7 nv7 nt7 nb7 B16 ns hB
  go_wp2_with fail
  clear d0 d1 d2 dl
  rw [← HU.out]
  clear HU
  have KM := HKM.out
  have N1 := HN1.out
  have N2 := HN2.out
  have nk0 := Hnk0.out
  have nv0 := Hnv0.out
  have B2 := HB2.out
  have nk1 := Hnk1.out
  have nv1 := Hnv1.out
  have B5 := HB5.out
  have nk3 := Hnk3.out
  have nv3 := Hnv3.out
  have B10 := HB10.out
  have nk5 := Hnk5.out
  have nv5 := Hnv5.out
  have nt5 := Hnt5.out
  have nb5 := Hnb5.out
  have B13 := HB13.out
  have nk7 := Hnk7.out
  have nv7 := Hnv7.out
  have nt7 := Hnt7.out
  have nb7 := Hnb7.out
  have B16 := HB16.out
  have ns := Hns.out
  have hB := HhB.out
  clear HKM HN1 HN2 Hnk0 Hnv0 HB2 Hnk1 Hnv1 HB5 Hnk3 Hnv3 HB10 Hnk5 Hnv5 Hnt5 Hnb5 HB13 Hnk7 Hnv7 Hnt7 Hnb7 HB16 Hns HhB
  refine (ints_t [0, 0, 1] 3 rfl _ _ _ _ _ nt7 ns (by omega)).mono ?_
  rintro e w16 ⟨rfl, x16, rfl⟩
  clear ns
  have hbd := below_drewN (Below.refl U16.heap.size U16) x16
  obtain ⟨V17, hV⟩ : ∃ V, V = U16.drewN x16 := ⟨_, rfl⟩
  rw [← hV] at hbd
  rw [← hV]
  replace KM := KM.later hbd
  replace N1 := N1.later hbd
  replace N2 := N2.later hbd
  replace nk0 := nk0.later hbd
  replace nv0 := nv0.later hbd
  replace B2 := B2.later hbd
  replace nk1 := nk1.later hbd
  replace nv1 := nv1.later hbd
  replace B5 := B5.later hbd
  replace nk3 := nk3.later hbd
  replace nv3 := nv3.later hbd
  replace B10 := B10.later hbd
  replace nk5 := nk5.later hbd
  replace nv5 := nv5.later hbd
  replace nt5 := nt5.later hbd
  replace nb5 := nb5.later hbd
  replace B13 := B13.later hbd
  replace nk7 := nk7.later hbd
  replace nv7 := nv7.later hbd
  replace nt7 := nt7.later hbd
  replace nb7 := nb7.later hbd
  replace B16 := B16.later hbd
  replace hB := hB.trans (hbd.mono hB.size)
  clear hbd hV
  have c0 : World.cell? V17 ⟨w5.heap.size, 0, none⟩ = some (.int .i64 2) := B13.cell 0
  have c1 : World.cell? V17 ⟨w5.heap.size, 1, none⟩ = some (.slice kp5 0 kc5) := B13.cell 1
  have c2 : World.cell? V17 ⟨w5.heap.size, 2, none⟩ = some (.slice vp5 1 vc5) := B13.cell 2
  have cl := B13.lt
  have HKM := Lib.hid KM
  have HN1 := Lib.hid N1
  have HN2 := Lib.hid N2
  have Hnk0 := Lib.hid nk0
  have Hnv0 := Lib.hid nv0
  have HB2 := Lib.hid B2
  have Hnk1 := Lib.hid nk1
  have Hnv1 := Lib.hid nv1
  have HB5 := Lib.hid B5
  have Hnk3 := Lib.hid nk3
  have Hnv3 := Lib.hid nv3
  have HB10 := Lib.hid B10
  have Hnk5 := Lib.hid nk5
  have Hnv5 := Lib.hid nv5
  have Hnt5 := Lib.hid nt5
  have Hnb5 := Lib.hid nb5
  have HB13 := Lib.hid B13
  have Hnk7 := Lib.hid nk7
  have Hnv7 := Lib.hid nv7
  have Hnt7 := Lib.hid nt7
  have Hnb7 := Lib.hid nb7
  have HB16 := Lib.hid B16
  have HhB := Lib.hid hB
  clear KM N1 N2 nk0 nv0 B2 nk1 nv1 B5 nk3 nv3 B10 nk5 nv5 nt5 nb5 B13 nk7 nv7 nt7 nb7 B16 hB
  go_wp2_with fail
  clear c0 c1 c2 cl
  have KM := HKM.out
  have N1 := HN1.out
  have N2 := HN2.out
  have nk0 := Hnk0.out
  have nv0 := Hnv0.out
  have B2 := HB2.out
  have nk1 := Hnk1.out
  have nv1 := Hnv1.out
  have B5 := HB5.out
  have nk3 := Hnk3.out
  have nv3 := Hnv3.out
  have B10 := HB10.out
  have nk5 := Hnk5.out
  have nv5 := Hnv5.out
  have nt5 := Hnt5.out
  have nb5 := Hnb5.out
  have B13 := HB13.out
  have nk7 := Hnk7.out
  have nv7 := Hnv7.out
  have nt7 := Hnt7.out
  have nb7 := Hnb7.out
  have B16 := HB16.out
  have hB := HhB.out
  clear HKM HN1 HN2 Hnk0 Hnv0 HB2 Hnk1 Hnv1 HB5 Hnk3 Hnv3 HB10 Hnk5 Hnv5 Hnt5 Hnb5 HB13 Hnk7 Hnv7 Hnt7 Hnb7 HB16 HhB
  refine (cright_any ⟨2, [], [1]⟩ 0 1 rfl rfl _ _ _ _ _ nk5 (by omega) (by omega)).mono ?_
  rintro e w99 ⟨he, hb99⟩
  rw [ex_right] at he
  subst he
  replace hB := hB.trans (hb99.mono hB.size)
  clear KM N1 N2 nk0 nv0 B2 nk1 nv1 B5 nk3 nv3 B10 nk5 nv5 nt5 nb5 B13 nk7 nv7 nt7 nb7 B16 hb99
  have HhB := Lib.hid hB
  clear hB
  go_wp2_with fail
  refine (of_kind 7 _).mono ?_
  rintro e w100 ⟨rfl, rfl⟩
  go_wp2_with fail
  go_ret
  exact ⟨rfl, HhB.out⟩
end Go.Proofs.Ythbpoagkfpalfaa
