/-
  SPEC: the walk of SpecRight.
-/
import Derived.Test.YthbpoagkfpalfaaRows
import Derived.ProofKit
import Derived.Deep.QuietTactic
import Derived.BigQuiet
import Derived.LoopTactic
import Derived.Test.YthbpoagkfpalfaaSpecW
namespace Go.Proofs.Ythbpoagkfpalfaa
open Go.ChangeShapes Go.WideShapes Go.ChangeAt Go.RowKit

set_option maxRecDepth 100000 in
set_option maxHeartbeats 8000000 in
theorem walkSpecRight (k : Int) (kp : Option Addr) (kn kc : Nat) (kz : List Int) (vp : Option Addr) (vn vc : Nat) (vz : List Int) (o1 o2 o3 o4 : Int) (w : World) (_hk : -9223372036854775808 ≤ k ∧ k ≤ 9223372036854775807) (wk : IsRow .i64 w kp kn kc kz) (wv : IsRow .i64 w vp vn vc vz) (_ho1 : -9223372036854775808 ≤ o1 ∧ o1 ≤ 9223372036854775807) (_ho2 : -9223372036854775808 ≤ o2 ∧ o2 ≤ 9223372036854775807) (_ho3 : -9223372036854775808 ≤ o3 ∧ o3 ≤ 9223372036854775807) (_ho4 : -9223372036854775808 ≤ o4 ∧ o4 ≤ 9223372036854775807) : Calls Try.prog 3 #[.agg #[.int .i64 k, .slice kp kn kc, .slice vp vn vc], .agg #[.int .i64 o1, .int .i64 o2, .int .i64 o3, .int .i64 o4]] w fun e w' => e = .returned (.bool true) ∧ Below w.heap.size w w' := by
  obtain ⟨N1, n1⟩ := Nums.of_row wk
  obtain ⟨N2, n2⟩ := Nums.of_row wv
  generalize kz.take kn = ks at N1 n1
  generalize vz.take vn = vs at N2 n2
  clear wk wv kz vz
  obtain ⟨o, ho1, ho2, ho3, ho4⟩ : ∃ o : OpV, o1 = o.kind ∧ o2 = o.obj ∧ o3 = o.a ∧ o4 = o.b := ⟨⟨o1, o2, o3, o4⟩, rfl, rfl, rfl, rfl⟩
  subst ho1 ho2 ho3 ho4
  obtain ⟨V0, hV⟩ : ∃ V, V = ((w.alloc (Obj.cells #[.int .i64 k, .slice kp kn kc, .slice vp vn vc] 24)).alloc (Obj.cells #[.int .i64 o.kind, .int .i64 o.obj, .int .i64 o.a, .int .i64 o.b] 26)) := ⟨_, rfl⟩
  have hB : Below w.heap.size w V0 := by rw [hV]; exact below_alloc2 w _ _
  have KC : Blk V0 (w.heap.size) 24 #[.int .i64 k, .slice kp kn kc, .slice vp vn vc] := by rw [hV]; exact (Blk.made w _ _).alloc _
  have KO : Blk V0 (w.heap.size + 1) 26 #[.int .i64 o.kind, .int .i64 o.obj, .int .i64 o.a, .int .i64 o.b] := by rw [hV]; exact Blk.made1 w _ _ _
  have HV := Lib.hid hV
  clear hV
  replace N1 := N1.later hB
  replace N2 := N2.later hB
  go_enter Try.func3, Try.ntmps3
  have HKC := Lib.hid KC
  have HKO := Lib.hid KO
  have HN1 := Lib.hid N1
  have HN2 := Lib.hid N2
  have HhB := Lib.hid hB
  clear KC KO N1 N2 hB
  go_wp2_with fail
  have KC := HKC.out
  have KO := HKO.out
  have N1 := HN1.out
  have N2 := HN2.out
  have hB := HhB.out
  clear HKC HKO HN1 HN2 HhB
  rw [← HV.out]
  clear HV
  refine (awake_any _).mono ?_
  rintro e w1 ⟨rfl, hb⟩
  replace KC := KC.later hb
  replace KO := KO.later hb
  replace N1 := N1.later hb
  replace N2 := N2.later hb
  replace hB := hB.trans (hb.mono hB.size)
  clear hb
  by_cases hf : kn ≤ 100 ∧ vn ≤ 100
  case pos =>
    have x0 : World.cell? _ ⟨w.heap.size, 0, none⟩ = some (.int .i64 k) := KC.cell 0
    have x1 : World.cell? _ ⟨w.heap.size, 1, none⟩ = some (.slice kp kn kc) := KC.cell 1
    have x2 : World.cell? _ ⟨w.heap.size, 2, none⟩ = some (.slice vp vn vc) := KC.cell 2
    have xl := KC.lt
    have HKC := Lib.hid KC
    have HKO := Lib.hid KO
    have HN1 := Lib.hid N1
    have HN2 := Lib.hid N2
    have HhB := Lib.hid hB
    clear KC KO N1 N2 hB
    go_wp2_with fail
    clear x0 x1 x2 xl
    have KC := HKC.out
    have KO := HKO.out
    have N1 := HN1.out
    have N2 := HN2.out
    have hB := HhB.out
    clear HKC HKO HN1 HN2 HhB
    refine (few_at k kn vn true (decide_eq_true hf) _ _ _ _ _).mono ?_
    rintro e w2 ⟨rfl, hb⟩
    replace KC := KC.later hb
    replace KO := KO.later hb
    replace N1 := N1.later hb
    replace N2 := N2.later hb
    replace hB := hB.trans (hb.mono hB.size)
    clear hb
    have x0 : World.cell? _ ⟨w.heap.size, 0, none⟩ = some (.int .i64 k) := KC.cell 0
    have x1 : World.cell? _ ⟨w.heap.size, 1, none⟩ = some (.slice kp kn kc) := KC.cell 1
    have x2 : World.cell? _ ⟨w.heap.size, 2, none⟩ = some (.slice vp vn vc) := KC.cell 2
    have xl := KC.lt
    have HKC := Lib.hid KC
    have HKO := Lib.hid KO
    have HN1 := Lib.hid N1
    have HN2 := Lib.hid N2
    have HhB := Lib.hid hB
    clear KC KO N1 N2 hB
    go_wp2_with fail
    clear x0 x1 x2 xl
    have KC := HKC.out
    have KO := HKO.out
    have N1 := HN1.out
    have N2 := HN2.out
    have hB := HhB.out
    clear HKC HKO HN1 HN2 HhB
    cases hr : rightC ⟨k, ks, vs⟩
    case false =>
      refine (cright_at ⟨k, ks, vs⟩ false hr kn vn n1 n2 _ _ _ _ _ N1 (by omega) (by omega)).mono ?_
      rintro e w3 ⟨rfl, hb⟩
      replace KC := KC.later hb
      replace KO := KO.later hb
      replace N1 := N1.later hb
      replace N2 := N2.later hb
      replace hB := hB.trans (hb.mono hB.size)
      clear hb
      have HKC := Lib.hid KC
      have HKO := Lib.hid KO
      have HN1 := Lib.hid N1
      have HN2 := Lib.hid N2
      have HhB := Lib.hid hB
      clear KC KO N1 N2 hB
      go_wp2_with fail
      have KC := HKC.out
      have KO := HKO.out
      have N1 := HN1.out
      have N2 := HN2.out
      have hB := HhB.out
      clear HKC HKO HN1 HN2 HhB
      go_ret
      exact ⟨rfl, hB⟩
    case true =>
      refine (cright_at ⟨k, ks, vs⟩ true hr kn vn n1 n2 _ _ _ _ _ N1 (by omega) (by omega)).mono ?_
      rintro e w3 ⟨rfl, hb⟩
      replace KC := KC.later hb
      replace KO := KO.later hb
      replace N1 := N1.later hb
      replace N2 := N2.later hb
      replace hB := hB.trans (hb.mono hB.size)
      clear hb
      have x0 : World.cell? _ ⟨w.heap.size, 0, none⟩ = some (.int .i64 k) := KC.cell 0
      have x1 : World.cell? _ ⟨w.heap.size, 1, none⟩ = some (.slice kp kn kc) := KC.cell 1
      have x2 : World.cell? _ ⟨w.heap.size, 2, none⟩ = some (.slice vp vn vc) := KC.cell 2
      have xl := KC.lt
      have y0 : World.cell? _ ⟨w.heap.size + 1, 0, none⟩ = some (.int .i64 o.kind) := KO.cell 0
      have y1 : World.cell? _ ⟨w.heap.size + 1, 1, none⟩ = some (.int .i64 o.obj) := KO.cell 1
      have y2 : World.cell? _ ⟨w.heap.size + 1, 2, none⟩ = some (.int .i64 o.a) := KO.cell 2
      have y3 : World.cell? _ ⟨w.heap.size + 1, 3, none⟩ = some (.int .i64 o.b) := KO.cell 3
      have yl := KO.lt
      have HKC := Lib.hid KC
      have HKO := Lib.hid KO
      have HN1 := Lib.hid N1
      have HN2 := Lib.hid N2
      have HhB := Lib.hid hB
      clear KC KO N1 N2 hB
      go_wp2_with fail
      clear x0 x1 x2 xl y0 y1 y2 y3 yl
      have KC := HKC.out
      have KO := HKO.out
      have N1 := HN1.out
      have N2 := HN2.out
      have hB := HhB.out
      clear HKC HKO HN1 HN2 HhB
      obtain ⟨⟨⟨k2, ks2, vs2⟩, v, b⟩, hd⟩ : ∃ r, doC ⟨k, ks, vs⟩ o = r := ⟨_, rfl⟩
      obtain ⟨f1, f2, f3, f4, f5, f6⟩ := do_facts hr hd
      obtain ⟨nk, hnk⟩ : ∃ n, ks2.length = n := ⟨_, rfl⟩
      obtain ⟨nv, hnv⟩ : ∃ n, vs2.length = n := ⟨_, rfl⟩
      dsimp only at f2 f3 f4 f5
      rw [hnv, n2] at f3
      rw [hnv, n2] at f4
      rw [hnk, n1] at f5
      have f2 := f2.symm
      subst f2
      cases b
      case false =>
        obtain ⟨g1, g2⟩ := f6 rfl
        simp only [ContV.mk.injEq, true_and] at g1
        obtain ⟨rfl, rfl⟩ := g1
        subst g2
        rw [n1] at hnk
        rw [n2] at hnv
        subst hnk hnv
        refine (do_at ⟨k, ks2, vs2⟩ o _ _ _ _ _ hd kn vn n1 n2 _ _ _ _ _ N1 N2 (by omega) (by omega) kn vn n1 n2).mono ?_
        rintro e w4 ⟨kp2, kc2, vp2, vc2, rfl, M1, M2, hb⟩
        replace KC := KC.later hb
        replace KO := KO.later hb
        replace N1 := N1.later hb
        replace N2 := N2.later hb
        replace hB := hB.trans (hb.mono hB.size)
        clear hb
        have x0 : World.cell? _ ⟨w.heap.size, 0, none⟩ = some (.int .i64 k) := KC.cell 0
        have x1 : World.cell? _ ⟨w.heap.size, 1, none⟩ = some (.slice kp kn kc) := KC.cell 1
        have x2 : World.cell? _ ⟨w.heap.size, 2, none⟩ = some (.slice vp vn vc) := KC.cell 2
        have xl := KC.lt
        obtain ⟨V4, hV⟩ : ∃ V, V = w4.alloc (Obj.cells #[.int .i64 k, .slice kp2 kn kc2, .slice vp2 vn vc2] 24) := ⟨_, rfl⟩
        have KX : Blk V4 w4.heap.size 24 #[.int .i64 k, .slice kp2 kn kc2, .slice vp2 vn vc2] := by rw [hV]; exact Blk.made _ _ _
        have hbv : Below w4.heap.size w4 V4 := by rw [hV]; exact below_alloc1 _ _
        replace KC := KC.later hbv
        replace KO := KO.later hbv
        replace N1 := N1.later hbv
        replace N2 := N2.later hbv
        replace M1 := M1.later hbv
        replace M2 := M2.later hbv
        replace hB := hB.trans (hbv.mono hB.size)
        clear hbv
        have HV := Lib.hid hV
        clear hV
        have HKC := Lib.hid KC
        have HKO := Lib.hid KO
        have HN1 := Lib.hid N1
        have HN2 := Lib.hid N2
        have HM1 := Lib.hid M1
        have HM2 := Lib.hid M2
        have HKX := Lib.hid KX
        have HhB := Lib.hid hB
        clear KC KO N1 N2 M1 M2 KX hB
        go_wp2_with fail
        clear x0 x1 x2 xl
        have KC := HKC.out
        have KO := HKO.out
        have N1 := HN1.out
        have N2 := HN2.out
        have M1 := HM1.out
        have M2 := HM2.out
        have KX := HKX.out
        have hB := HhB.out
        clear HKC HKO HN1 HN2 HM1 HM2 HKX HhB
        rw [← HV.out]
        clear HV
        have z0 : World.cell? _ ⟨w4.heap.size, 0, none⟩ = some (.int .i64 k) := KX.cell 0
        have z1 : World.cell? _ ⟨w4.heap.size, 1, none⟩ = some (.slice kp2 kn kc2) := KX.cell 1
        have z2 : World.cell? _ ⟨w4.heap.size, 2, none⟩ = some (.slice vp2 vn vc2) := KX.cell 2
        have zl := KX.lt
        have x0 : World.cell? _ ⟨w.heap.size, 0, none⟩ = some (.int .i64 k) := KC.cell 0
        have x1 : World.cell? _ ⟨w.heap.size, 1, none⟩ = some (.slice kp kn kc) := KC.cell 1
        have x2 : World.cell? _ ⟨w.heap.size, 2, none⟩ = some (.slice vp vn vc) := KC.cell 2
        have xl := KC.lt
        have HKC := Lib.hid KC
        have HKO := Lib.hid KO
        have HN1 := Lib.hid N1
        have HN2 := Lib.hid N2
        have HM1 := Lib.hid M1
        have HM2 := Lib.hid M2
        have HKX := Lib.hid KX
        have HhB := Lib.hid hB
        clear KC KO N1 N2 M1 M2 KX hB
        go_wp2_with fail
        clear z0 z1 z2 zl x0 x1 x2 xl
        have KC := HKC.out
        have KO := HKO.out
        have N1 := HN1.out
        have N2 := HN2.out
        have M1 := HM1.out
        have M2 := HM2.out
        have KX := HKX.out
        have hB := HhB.out
        clear HKC HKO HN1 HN2 HM1 HM2 HKX HhB
        refine (same_at ⟨k, ks2, vs2⟩ ⟨k, ks2, vs2⟩ true (decide_eq_true rfl) kn vn kn vn n1 n2 n1 n2 _ _ _ _ _ _ _ _ _ M1 M2 N1 N2 (by omega) (by omega) (by omega) (by omega)).mono ?_
        rintro e w5 ⟨rfl, hb⟩
        replace KC := KC.later hb
        replace KO := KO.later hb
        replace N1 := N1.later hb
        replace N2 := N2.later hb
        replace M1 := M1.later hb
        replace M2 := M2.later hb
        replace KX := KX.later hb
        replace hB := hB.trans (hb.mono hB.size)
        clear hb
        have z0 : World.cell? _ ⟨w4.heap.size, 0, none⟩ = some (.int .i64 k) := KX.cell 0
        have z1 : World.cell? _ ⟨w4.heap.size, 1, none⟩ = some (.slice kp2 kn kc2) := KX.cell 1
        have z2 : World.cell? _ ⟨w4.heap.size, 2, none⟩ = some (.slice vp2 vn vc2) := KX.cell 2
        have zl := KX.lt
        have x0 : World.cell? _ ⟨w.heap.size, 0, none⟩ = some (.int .i64 k) := KC.cell 0
        have x1 : World.cell? _ ⟨w.heap.size, 1, none⟩ = some (.slice kp kn kc) := KC.cell 1
        have x2 : World.cell? _ ⟨w.heap.size, 2, none⟩ = some (.slice vp vn vc) := KC.cell 2
        have xl := KC.lt
        have HKC := Lib.hid KC
        have HKO := Lib.hid KO
        have HN1 := Lib.hid N1
        have HN2 := Lib.hid N2
        have HM1 := Lib.hid M1
        have HM2 := Lib.hid M2
        have HKX := Lib.hid KX
        have HhB := Lib.hid hB
        clear KC KO N1 N2 M1 M2 KX hB
        go_wp2_with fail
        clear z0 z1 z2 zl x0 x1 x2 xl
        have KC := HKC.out
        have KO := HKO.out
        have N1 := HN1.out
        have N2 := HN2.out
        have M1 := HM1.out
        have M2 := HM2.out
        have KX := HKX.out
        have hB := HhB.out
        clear HKC HKO HN1 HN2 HM1 HM2 HKX HhB
        refine (cright_at ⟨k, ks2, vs2⟩ true f1 kn vn n1 n2 _ _ _ _ _ M1 (by omega) (by omega)).mono ?_
        rintro e w6 ⟨rfl, hb⟩
        replace KC := KC.later hb
        replace KO := KO.later hb
        replace N1 := N1.later hb
        replace N2 := N2.later hb
        replace M1 := M1.later hb
        replace M2 := M2.later hb
        replace KX := KX.later hb
        replace hB := hB.trans (hb.mono hB.size)
        clear hb
        have z0 : World.cell? _ ⟨w4.heap.size, 0, none⟩ = some (.int .i64 k) := KX.cell 0
        have z1 : World.cell? _ ⟨w4.heap.size, 1, none⟩ = some (.slice kp2 kn kc2) := KX.cell 1
        have z2 : World.cell? _ ⟨w4.heap.size, 2, none⟩ = some (.slice vp2 vn vc2) := KX.cell 2
        have zl := KX.lt
        have x0 : World.cell? _ ⟨w.heap.size, 0, none⟩ = some (.int .i64 k) := KC.cell 0
        have x1 : World.cell? _ ⟨w.heap.size, 1, none⟩ = some (.slice kp kn kc) := KC.cell 1
        have x2 : World.cell? _ ⟨w.heap.size, 2, none⟩ = some (.slice vp vn vc) := KC.cell 2
        have xl := KC.lt
        have HKC := Lib.hid KC
        have HKO := Lib.hid KO
        have HN1 := Lib.hid N1
        have HN2 := Lib.hid N2
        have HM1 := Lib.hid M1
        have HM2 := Lib.hid M2
        have HKX := Lib.hid KX
        have HhB := Lib.hid hB
        clear KC KO N1 N2 M1 M2 KX hB
        go_wp2_with fail
        clear z0 z1 z2 zl x0 x1 x2 xl
        have KC := HKC.out
        have KO := HKO.out
        have N1 := HN1.out
        have N2 := HN2.out
        have M1 := HM1.out
        have M2 := HM2.out
        have KX := HKX.out
        have hB := HhB.out
        clear HKC HKO HN1 HN2 HM1 HM2 HKX HhB
        go_ret
        exact ⟨rfl, hB⟩
      case true =>
        refine (do_at ⟨k, ks, vs⟩ o _ _ _ _ _ hd kn vn n1 n2 _ _ _ _ _ N1 N2 (by omega) (by omega) nk nv hnk hnv).mono ?_
        rintro e w4 ⟨kp2, kc2, vp2, vc2, rfl, M1, M2, hb⟩
        replace KC := KC.later hb
        replace KO := KO.later hb
        replace N1 := N1.later hb
        replace N2 := N2.later hb
        replace hB := hB.trans (hb.mono hB.size)
        clear hb
        have x0 : World.cell? _ ⟨w.heap.size, 0, none⟩ = some (.int .i64 k) := KC.cell 0
        have x1 : World.cell? _ ⟨w.heap.size, 1, none⟩ = some (.slice kp kn kc) := KC.cell 1
        have x2 : World.cell? _ ⟨w.heap.size, 2, none⟩ = some (.slice vp vn vc) := KC.cell 2
        have xl := KC.lt
        obtain ⟨V4, hV⟩ : ∃ V, V = w4.alloc (Obj.cells #[.int .i64 k, .slice kp2 nk kc2, .slice vp2 nv vc2] 24) := ⟨_, rfl⟩
        have KX : Blk V4 w4.heap.size 24 #[.int .i64 k, .slice kp2 nk kc2, .slice vp2 nv vc2] := by rw [hV]; exact Blk.made _ _ _
        have hbv : Below w4.heap.size w4 V4 := by rw [hV]; exact below_alloc1 _ _
        replace KC := KC.later hbv
        replace KO := KO.later hbv
        replace N1 := N1.later hbv
        replace N2 := N2.later hbv
        replace M1 := M1.later hbv
        replace M2 := M2.later hbv
        replace hB := hB.trans (hbv.mono hB.size)
        clear hbv
        have HV := Lib.hid hV
        clear hV
        have HKC := Lib.hid KC
        have HKO := Lib.hid KO
        have HN1 := Lib.hid N1
        have HN2 := Lib.hid N2
        have HM1 := Lib.hid M1
        have HM2 := Lib.hid M2
        have HKX := Lib.hid KX
        have HhB := Lib.hid hB
        clear KC KO N1 N2 M1 M2 KX hB
        go_wp2_with fail
        clear x0 x1 x2 xl
        have KC := HKC.out
        have KO := HKO.out
        have N1 := HN1.out
        have N2 := HN2.out
        have M1 := HM1.out
        have M2 := HM2.out
        have KX := HKX.out
        have hB := HhB.out
        clear HKC HKO HN1 HN2 HM1 HM2 HKX HhB
        rw [← HV.out]
        clear HV
        have z0 : World.cell? _ ⟨w4.heap.size, 0, none⟩ = some (.int .i64 k) := KX.cell 0
        have z1 : World.cell? _ ⟨w4.heap.size, 1, none⟩ = some (.slice kp2 nk kc2) := KX.cell 1
        have z2 : World.cell? _ ⟨w4.heap.size, 2, none⟩ = some (.slice vp2 nv vc2) := KX.cell 2
        have zl := KX.lt
        have x0 : World.cell? _ ⟨w.heap.size, 0, none⟩ = some (.int .i64 k) := KC.cell 0
        have x1 : World.cell? _ ⟨w.heap.size, 1, none⟩ = some (.slice kp kn kc) := KC.cell 1
        have x2 : World.cell? _ ⟨w.heap.size, 2, none⟩ = some (.slice vp vn vc) := KC.cell 2
        have xl := KC.lt
        have HKC := Lib.hid KC
        have HKO := Lib.hid KO
        have HN1 := Lib.hid N1
        have HN2 := Lib.hid N2
        have HM1 := Lib.hid M1
        have HM2 := Lib.hid M2
        have HKX := Lib.hid KX
        have HhB := Lib.hid hB
        clear KC KO N1 N2 M1 M2 KX hB
        go_wp2_with fail
        clear z0 z1 z2 zl x0 x1 x2 xl
        have KC := HKC.out
        have KO := HKO.out
        have N1 := HN1.out
        have N2 := HN2.out
        have M1 := HM1.out
        have M2 := HM2.out
        have KX := HKX.out
        have hB := HhB.out
        clear HKC HKO HN1 HN2 HM1 HM2 HKX HhB
        refine (cright_at ⟨k, ks2, vs2⟩ true f1 nk nv hnk hnv _ _ _ _ _ M1 (by omega) (by omega)).mono ?_
        rintro e w5 ⟨rfl, hb⟩
        replace KC := KC.later hb
        replace KO := KO.later hb
        replace N1 := N1.later hb
        replace N2 := N2.later hb
        replace M1 := M1.later hb
        replace M2 := M2.later hb
        replace KX := KX.later hb
        replace hB := hB.trans (hb.mono hB.size)
        clear hb
        have z0 : World.cell? _ ⟨w4.heap.size, 0, none⟩ = some (.int .i64 k) := KX.cell 0
        have z1 : World.cell? _ ⟨w4.heap.size, 1, none⟩ = some (.slice kp2 nk kc2) := KX.cell 1
        have z2 : World.cell? _ ⟨w4.heap.size, 2, none⟩ = some (.slice vp2 nv vc2) := KX.cell 2
        have zl := KX.lt
        have x0 : World.cell? _ ⟨w.heap.size, 0, none⟩ = some (.int .i64 k) := KC.cell 0
        have x1 : World.cell? _ ⟨w.heap.size, 1, none⟩ = some (.slice kp kn kc) := KC.cell 1
        have x2 : World.cell? _ ⟨w.heap.size, 2, none⟩ = some (.slice vp vn vc) := KC.cell 2
        have xl := KC.lt
        have HKC := Lib.hid KC
        have HKO := Lib.hid KO
        have HN1 := Lib.hid N1
        have HN2 := Lib.hid N2
        have HM1 := Lib.hid M1
        have HM2 := Lib.hid M2
        have HKX := Lib.hid KX
        have HhB := Lib.hid hB
        clear KC KO N1 N2 M1 M2 KX hB
        go_wp2_with fail
        clear z0 z1 z2 zl x0 x1 x2 xl
        have KC := HKC.out
        have KO := HKO.out
        have N1 := HN1.out
        have N2 := HN2.out
        have M1 := HM1.out
        have M2 := HM2.out
        have KX := HKX.out
        have hB := HhB.out
        clear HKC HKO HN1 HN2 HM1 HM2 HKX HhB
        go_ret
        exact ⟨rfl, hB⟩
  case neg =>
    have x0 : World.cell? _ ⟨w.heap.size, 0, none⟩ = some (.int .i64 k) := KC.cell 0
    have x1 : World.cell? _ ⟨w.heap.size, 1, none⟩ = some (.slice kp kn kc) := KC.cell 1
    have x2 : World.cell? _ ⟨w.heap.size, 2, none⟩ = some (.slice vp vn vc) := KC.cell 2
    have xl := KC.lt
    have HKC := Lib.hid KC
    have HKO := Lib.hid KO
    have HN1 := Lib.hid N1
    have HN2 := Lib.hid N2
    have HhB := Lib.hid hB
    clear KC KO N1 N2 hB
    go_wp2_with fail
    clear x0 x1 x2 xl
    have KC := HKC.out
    have KO := HKO.out
    have N1 := HN1.out
    have N2 := HN2.out
    have hB := HhB.out
    clear HKC HKO HN1 HN2 HhB
    refine (few_at k kn vn false (decide_eq_false hf) _ _ _ _ _).mono ?_
    rintro e w2 ⟨rfl, hb⟩
    replace KC := KC.later hb
    replace KO := KO.later hb
    replace N1 := N1.later hb
    replace N2 := N2.later hb
    replace hB := hB.trans (hb.mono hB.size)
    clear hb
    have x0 : World.cell? _ ⟨w.heap.size, 0, none⟩ = some (.int .i64 k) := KC.cell 0
    have x1 : World.cell? _ ⟨w.heap.size, 1, none⟩ = some (.slice kp kn kc) := KC.cell 1
    have x2 : World.cell? _ ⟨w.heap.size, 2, none⟩ = some (.slice vp vn vc) := KC.cell 2
    have xl := KC.lt
    have HKC := Lib.hid KC
    have HKO := Lib.hid KO
    have HN1 := Lib.hid N1
    have HN2 := Lib.hid N2
    have HhB := Lib.hid hB
    clear KC KO N1 N2 hB
    go_wp2_with fail
    clear x0 x1 x2 xl
    have KC := HKC.out
    have KO := HKO.out
    have N1 := HN1.out
    have N2 := HN2.out
    have hB := HhB.out
    clear HKC HKO HN1 HN2 HhB
    go_ret
    exact ⟨rfl, hB⟩
end Go.Proofs.Ythbpoagkfpalfaa
