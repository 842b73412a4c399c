/-
  SPEC: the walk of SpecCommutes.
-/
import Derived.Test.YthbpoagkfpalfaaRows
import Derived.ProofKit
import Derived.Deep.QuietTactic
import Derived.BigQuiet
import Derived.LoopTactic
import Derived.Test.YthbpoagkfpalfaaSpecW
import Derived.Test.YthbpoagkfpalfaaAfter
namespace Go.Proofs.Ythbpoagkfpalfaa
open Go.ChangeShapes Go.WideShapes Go.ChangeAt Go.RowKit

set_option maxRecDepth 100000 in
set_option maxHeartbeats 8000000 in
theorem walkSpecCommutes (k : Int) (kp : Option Addr) (kn kc : Nat) (kz : List Int) (vp : Option Addr) (vn vc : Nat) (vz : List Int) (a1 a2 a3 a4 b1 b2 b3 b4 : Int) (w : World) (_hk : -9223372036854775808 ≤ k ∧ k ≤ 9223372036854775807) (wk : IsRow .i64 w kp kn kc kz) (wv : IsRow .i64 w vp vn vc vz) (_ha1 : -9223372036854775808 ≤ a1 ∧ a1 ≤ 9223372036854775807) (_ha2 : -9223372036854775808 ≤ a2 ∧ a2 ≤ 9223372036854775807) (_ha3 : -9223372036854775808 ≤ a3 ∧ a3 ≤ 9223372036854775807) (_ha4 : -9223372036854775808 ≤ a4 ∧ a4 ≤ 9223372036854775807) (_hb1 : -9223372036854775808 ≤ b1 ∧ b1 ≤ 9223372036854775807) (_hb2 : -9223372036854775808 ≤ b2 ∧ b2 ≤ 9223372036854775807) (_hb3 : -9223372036854775808 ≤ b3 ∧ b3 ≤ 9223372036854775807) (_hb4 : -9223372036854775808 ≤ b4 ∧ b4 ≤ 9223372036854775807) : Calls Try.prog 4 #[.agg #[.int .i64 k, .slice kp kn kc, .slice vp vn vc], .agg #[.int .i64 a1, .int .i64 a2, .int .i64 a3, .int .i64 a4], .agg #[.int .i64 b1, .int .i64 b2, .int .i64 b3, .int .i64 b4]] w fun e w' => e = .returned (.bool true) ∧ Below w.heap.size w w' := by
  obtain ⟨N1, n1⟩ := Nums.of_row wk
  obtain ⟨N2, n2⟩ := Nums.of_row wv
  generalize kz.take kn = ks at N1 n1
  generalize vz.take vn = vs at N2 n2
  clear wk wv kz vz
  obtain ⟨a, ha1, ha2, ha3, ha4⟩ : ∃ o : OpV, a1 = o.kind ∧ a2 = o.obj ∧ a3 = o.a ∧ a4 = o.b := ⟨⟨a1, a2, a3, a4⟩, rfl, rfl, rfl, rfl⟩
  subst ha1 ha2 ha3 ha4
  obtain ⟨b, hb1, hb2, hb3, hb4⟩ : ∃ o : OpV, b1 = o.kind ∧ b2 = o.obj ∧ b3 = o.a ∧ b4 = o.b := ⟨⟨b1, b2, b3, b4⟩, rfl, rfl, rfl, rfl⟩
  subst hb1 hb2 hb3 hb4
  obtain ⟨V0, hV⟩ : ∃ V, V = (((w.alloc (Obj.cells #[.int .i64 k, .slice kp kn kc, .slice vp vn vc] 24)).alloc (Obj.cells #[.int .i64 a.kind, .int .i64 a.obj, .int .i64 a.a, .int .i64 a.b] 26)).alloc (Obj.cells #[.int .i64 b.kind, .int .i64 b.obj, .int .i64 b.a, .int .i64 b.b] 26)) := ⟨_, rfl⟩
  have hB : Below w.heap.size w V0 := by rw [hV]; exact below_alloc3 w _ _ _
  have KC : Blk V0 (w.heap.size) 24 #[.int .i64 k, .slice kp kn kc, .slice vp vn vc] := by rw [hV]; exact ((Blk.made w _ _).alloc _).alloc _
  have KA : Blk V0 (w.heap.size + 1) 26 #[.int .i64 a.kind, .int .i64 a.obj, .int .i64 a.a, .int .i64 a.b] := by rw [hV]; exact (Blk.made1 w _ _ _).alloc _
  have KB : Blk V0 (w.heap.size + 1 + 1) 26 #[.int .i64 b.kind, .int .i64 b.obj, .int .i64 b.a, .int .i64 b.b] := by rw [hV]; exact Blk.made2 w _ _ _ _
  have HV := Lib.hid hV
  clear hV
  replace N1 := N1.later hB
  replace N2 := N2.later hB
  go_enter Try.func4, Try.ntmps4
  have HKC := Lib.hid KC
  have HKA := Lib.hid KA
  have HKB := Lib.hid KB
  have HN1 := Lib.hid N1
  have HN2 := Lib.hid N2
  have HhB := Lib.hid hB
  clear KC KA KB N1 N2 hB
  go_wp2_with fail
  have KC := HKC.out
  have KA := HKA.out
  have KB := HKB.out
  have N1 := HN1.out
  have N2 := HN2.out
  have hB := HhB.out
  clear HKC HKA HKB HN1 HN2 HhB
  rw [← HV.out]
  clear HV
  refine (awake_any _).mono ?_
  rintro e w1 ⟨rfl, hb⟩
  replace KC := KC.later hb
  replace KA := KA.later hb
  replace KB := KB.later hb
  replace N1 := N1.later hb
  replace N2 := N2.later hb
  replace hB := hB.trans (hb.mono hB.size)
  clear hb
  obtain ⟨R, hR⟩ : ∃ r, comm a b = r := ⟨_, rfl⟩
  have hR2 : comm b a = R := (comm_swap b a).trans hR
  by_cases hf : kn ≤ 100 ∧ vn ≤ 100
  case pos =>
    cases hr : rightC ⟨k, ks, vs⟩
    case false =>
      have hcur : Below w1.heap.size w1 w1 := Below.refl _ _
      have x0 := fun (y : After w1) => (y.cell KC.lt).trans (KC.cell 0)
      have x0 : ∀ y : After w1, World.cell? y.w ⟨w.heap.size, 0, none⟩ = some (.int .i64 k) := x0
      have x1 := fun (y : After w1) => (y.cell KC.lt).trans (KC.cell 1)
      have x1 : ∀ y : After w1, World.cell? y.w ⟨w.heap.size, 1, none⟩ = some (.slice kp kn kc) := x1
      have x2 := fun (y : After w1) => (y.cell KC.lt).trans (KC.cell 2)
      have x2 : ∀ y : After w1, World.cell? y.w ⟨w.heap.size, 2, none⟩ = some (.slice vp vn vc) := x2
      have ya0 := fun (y : After w1) => (y.cell KA.lt).trans (KA.cell 0)
      have ya0 : ∀ y : After w1, World.cell? y.w ⟨w.heap.size + 1, 0, none⟩ = some (.int .i64 a.kind) := ya0
      have ya1 := fun (y : After w1) => (y.cell KA.lt).trans (KA.cell 1)
      have ya1 : ∀ y : After w1, World.cell? y.w ⟨w.heap.size + 1, 1, none⟩ = some (.int .i64 a.obj) := ya1
      have ya2 := fun (y : After w1) => (y.cell KA.lt).trans (KA.cell 2)
      have ya2 : ∀ y : After w1, World.cell? y.w ⟨w.heap.size + 1, 2, none⟩ = some (.int .i64 a.a) := ya2
      have ya3 := fun (y : After w1) => (y.cell KA.lt).trans (KA.cell 3)
      have ya3 : ∀ y : After w1, World.cell? y.w ⟨w.heap.size + 1, 3, none⟩ = some (.int .i64 a.b) := ya3
      have yb0 := fun (y : After w1) => (y.cell KB.lt).trans (KB.cell 0)
      have yb0 : ∀ y : After w1, World.cell? y.w ⟨w.heap.size + 1 + 1, 0, none⟩ = some (.int .i64 b.kind) := yb0
      have yb1 := fun (y : After w1) => (y.cell KB.lt).trans (KB.cell 1)
      have yb1 : ∀ y : After w1, World.cell? y.w ⟨w.heap.size + 1 + 1, 1, none⟩ = some (.int .i64 b.obj) := yb1
      have yb2 := fun (y : After w1) => (y.cell KB.lt).trans (KB.cell 2)
      have yb2 : ∀ y : After w1, World.cell? y.w ⟨w.heap.size + 1 + 1, 2, none⟩ = some (.int .i64 b.a) := yb2
      have yb3 := fun (y : After w1) => (y.cell KB.lt).trans (KB.cell 3)
      have yb3 : ∀ y : After w1, World.cell? y.w ⟨w.heap.size + 1 + 1, 3, none⟩ = some (.int .i64 b.b) := yb3
      have HQ0 := Lib.hid fun (y : After w1) => few_at k kn vn true (decide_eq_true hf) kp vp kc vc y.w
      have HQ1 := Lib.hid fun (y : After w1) => cright_at ⟨k, ks, vs⟩ false hr kn vn n1 n2 kp vp kc vc y.w (N1.later y.bel) (by omega) (by omega)
      clear hcur
      have HKC := Lib.hid KC
      have HKA := Lib.hid KA
      have HKB := Lib.hid KB
      have HN1 := Lib.hid N1
      have HN2 := Lib.hid N2
      have HhB := Lib.hid hB
      clear KC KA KB N1 N2 hB
      go_wp2_with fail
      refine wp_region_after (by kernel_rfl) (by kernel_rfl) ?_
      repeat (go_big_quiet_step (first | (go_at_call 9; with_reducible exact calls_after (HQ0.out _)) | (go_at_call 10; with_reducible exact calls_after (HQ1.out _))))
      refine wpQuiet_nil ?_
      rintro _ ⟨y, rfl⟩
      have KC := HKC.out
      have KA := HKA.out
      have KB := HKB.out
      have N1 := HN1.out
      have N2 := HN2.out
      have hB := HhB.out
      clear HKC HKA HKB HN1 HN2 HhB
      obtain ⟨w2, hX⟩ : ∃ X, X = y.w := ⟨_, rfl⟩
      have hb := y.bel
      rw [← hX] at hb
      rw [← hX]
      clear hX x0 x1 x2 ya0 ya1 ya2 ya3 yb0 yb1 yb2 yb3 HQ0 HQ1
      clear y
      replace KC := KC.later hb
      replace KA := KA.later hb
      replace KB := KB.later hb
      replace N1 := N1.later hb
      replace N2 := N2.later hb
      replace hB := hB.trans (hb.mono hB.size)
      clear hb
      have hcur : Below w2.heap.size w2 w2 := Below.refl _ _
      have x0 := fun (y : After w2) => (y.cell KC.lt).trans (KC.cell 0)
      have x0 : ∀ y : After w2, World.cell? y.w ⟨w.heap.size, 0, none⟩ = some (.int .i64 k) := x0
      have x1 := fun (y : After w2) => (y.cell KC.lt).trans (KC.cell 1)
      have x1 : ∀ y : After w2, World.cell? y.w ⟨w.heap.size, 1, none⟩ = some (.slice kp kn kc) := x1
      have x2 := fun (y : After w2) => (y.cell KC.lt).trans (KC.cell 2)
      have x2 : ∀ y : After w2, World.cell? y.w ⟨w.heap.size, 2, none⟩ = some (.slice vp vn vc) := x2
      have ya0 := fun (y : After w2) => (y.cell KA.lt).trans (KA.cell 0)
      have ya0 : ∀ y : After w2, World.cell? y.w ⟨w.heap.size + 1, 0, none⟩ = some (.int .i64 a.kind) := ya0
      have ya1 := fun (y : After w2) => (y.cell KA.lt).trans (KA.cell 1)
      have ya1 : ∀ y : After w2, World.cell? y.w ⟨w.heap.size + 1, 1, none⟩ = some (.int .i64 a.obj) := ya1
      have ya2 := fun (y : After w2) => (y.cell KA.lt).trans (KA.cell 2)
      have ya2 : ∀ y : After w2, World.cell? y.w ⟨w.heap.size + 1, 2, none⟩ = some (.int .i64 a.a) := ya2
      have ya3 := fun (y : After w2) => (y.cell KA.lt).trans (KA.cell 3)
      have ya3 : ∀ y : After w2, World.cell? y.w ⟨w.heap.size + 1, 3, none⟩ = some (.int .i64 a.b) := ya3
      have yb0 := fun (y : After w2) => (y.cell KB.lt).trans (KB.cell 0)
      have yb0 : ∀ y : After w2, World.cell? y.w ⟨w.heap.size + 1 + 1, 0, none⟩ = some (.int .i64 b.kind) := yb0
      have yb1 := fun (y : After w2) => (y.cell KB.lt).trans (KB.cell 1)
      have yb1 : ∀ y : After w2, World.cell? y.w ⟨w.heap.size + 1 + 1, 1, none⟩ = some (.int .i64 b.obj) := yb1
      have yb2 := fun (y : After w2) => (y.cell KB.lt).trans (KB.cell 2)
      have yb2 : ∀ y : After w2, World.cell? y.w ⟨w.heap.size + 1 + 1, 2, none⟩ = some (.int .i64 b.a) := yb2
      have yb3 := fun (y : After w2) => (y.cell KB.lt).trans (KB.cell 3)
      have yb3 : ∀ y : After w2, World.cell? y.w ⟨w.heap.size + 1 + 1, 3, none⟩ = some (.int .i64 b.b) := yb3
      have HQ0 := Lib.hid fun (y : After w2) => comm_at a b R hR y.w
      have HQ1 := Lib.hid fun (y : After w2) => comm_at b a R hR2 y.w
      clear hcur
      have HKC := Lib.hid KC
      have HKA := Lib.hid KA
      have HKB := Lib.hid KB
      have HN1 := Lib.hid N1
      have HN2 := Lib.hid N2
      have HhB := Lib.hid hB
      clear KC KA KB N1 N2 hB
      go_wp2_with fail
      refine wp_region_after (by kernel_rfl) (by kernel_rfl) ?_
      repeat (go_big_quiet_step (first | (go_at_call 13; with_reducible exact calls_after (HQ0.out _)) | (go_at_call 13; with_reducible exact calls_after (HQ1.out _))))
      refine wpQuiet_nil ?_
      rintro _ ⟨y, rfl⟩
      have KC := HKC.out
      have KA := HKA.out
      have KB := HKB.out
      have N1 := HN1.out
      have N2 := HN2.out
      have hB := HhB.out
      clear HKC HKA HKB HN1 HN2 HhB
      obtain ⟨w3, hX⟩ : ∃ X, X = y.w := ⟨_, rfl⟩
      have hb := y.bel
      rw [← hX] at hb
      rw [← hX]
      clear hX x0 x1 x2 ya0 ya1 ya2 ya3 yb0 yb1 yb2 yb3 HQ0 HQ1
      clear y
      replace KC := KC.later hb
      replace KA := KA.later hb
      replace KB := KB.later hb
      replace N1 := N1.later hb
      replace N2 := N2.later hb
      replace hB := hB.trans (hb.mono hB.size)
      clear hb
      have hRR : (R == R) = true := by simp
      have HKC := Lib.hid KC
      have HKA := Lib.hid KA
      have HKB := Lib.hid KB
      have HN1 := Lib.hid N1
      have HN2 := Lib.hid N2
      have HhB := Lib.hid hB
      clear KC KA KB N1 N2 hB
      go_wp2_with fail
      have KC := HKC.out
      have KA := HKA.out
      have KB := HKB.out
      have N1 := HN1.out
      have N2 := HN2.out
      have hB := HhB.out
      clear HKC HKA HKB HN1 HN2 HhB
      go_ret
      exact ⟨rfl, hB⟩
    case true =>
      cases R
      case false =>
        have hcur : Below w1.heap.size w1 w1 := Below.refl _ _
        have x0 := fun (y : After w1) => (y.cell KC.lt).trans (KC.cell 0)
        have x0 : ∀ y : After w1, World.cell? y.w ⟨w.heap.size, 0, none⟩ = some (.int .i64 k) := x0
        have x1 := fun (y : After w1) => (y.cell KC.lt).trans (KC.cell 1)
        have x1 : ∀ y : After w1, World.cell? y.w ⟨w.heap.size, 1, none⟩ = some (.slice kp kn kc) := x1
        have x2 := fun (y : After w1) => (y.cell KC.lt).trans (KC.cell 2)
        have x2 : ∀ y : After w1, World.cell? y.w ⟨w.heap.size, 2, none⟩ = some (.slice vp vn vc) := x2
        have ya0 := fun (y : After w1) => (y.cell KA.lt).trans (KA.cell 0)
        have ya0 : ∀ y : After w1, World.cell? y.w ⟨w.heap.size + 1, 0, none⟩ = some (.int .i64 a.kind) := ya0
        have ya1 := fun (y : After w1) => (y.cell KA.lt).trans (KA.cell 1)
        have ya1 : ∀ y : After w1, World.cell? y.w ⟨w.heap.size + 1, 1, none⟩ = some (.int .i64 a.obj) := ya1
        have ya2 := fun (y : After w1) => (y.cell KA.lt).trans (KA.cell 2)
        have ya2 : ∀ y : After w1, World.cell? y.w ⟨w.heap.size + 1, 2, none⟩ = some (.int .i64 a.a) := ya2
        have ya3 := fun (y : After w1) => (y.cell KA.lt).trans (KA.cell 3)
        have ya3 : ∀ y : After w1, World.cell? y.w ⟨w.heap.size + 1, 3, none⟩ = some (.int .i64 a.b) := ya3
        have yb0 := fun (y : After w1) => (y.cell KB.lt).trans (KB.cell 0)
        have yb0 : ∀ y : After w1, World.cell? y.w ⟨w.heap.size + 1 + 1, 0, none⟩ = some (.int .i64 b.kind) := yb0
        have yb1 := fun (y : After w1) => (y.cell KB.lt).trans (KB.cell 1)
        have yb1 : ∀ y : After w1, World.cell? y.w ⟨w.heap.size + 1 + 1, 1, none⟩ = some (.int .i64 b.obj) := yb1
        have yb2 := fun (y : After w1) => (y.cell KB.lt).trans (KB.cell 2)
        have yb2 : ∀ y : After w1, World.cell? y.w ⟨w.heap.size + 1 + 1, 2, none⟩ = some (.int .i64 b.a) := yb2
        have yb3 := fun (y : After w1) => (y.cell KB.lt).trans (KB.cell 3)
        have yb3 : ∀ y : After w1, World.cell? y.w ⟨w.heap.size + 1 + 1, 3, none⟩ = some (.int .i64 b.b) := yb3
        have HQ0 := Lib.hid fun (y : After w1) => few_at k kn vn true (decide_eq_true hf) kp vp kc vc y.w
        have HQ1 := Lib.hid fun (y : After w1) => cright_at ⟨k, ks, vs⟩ true hr kn vn n1 n2 kp vp kc vc y.w (N1.later y.bel) (by omega) (by omega)
        have HQ2 := Lib.hid fun (y : After w1) => comm_at a b false hR y.w
        have HQ3 := Lib.hid fun (y : After w1) => comm_at b a false hR2 y.w
        clear hcur
        have HKC := Lib.hid KC
        have HKA := Lib.hid KA
        have HKB := Lib.hid KB
        have HN1 := Lib.hid N1
        have HN2 := Lib.hid N2
        have HhB := Lib.hid hB
        clear KC KA KB N1 N2 hB
        go_wp2_with fail
        refine wp_region_after (by kernel_rfl) (by kernel_rfl) ?_
        repeat (go_big_quiet_step (first | (go_at_call 9; with_reducible exact calls_after (HQ0.out _)) | (go_at_call 10; with_reducible exact calls_after (HQ1.out _)) | (go_at_call 13; with_reducible exact calls_after (HQ2.out _)) | (go_at_call 13; with_reducible exact calls_after (HQ3.out _))))
        refine wpQuiet_nil ?_
        rintro _ ⟨y, rfl⟩
        have KC := HKC.out
        have KA := HKA.out
        have KB := HKB.out
        have N1 := HN1.out
        have N2 := HN2.out
        have hB := HhB.out
        clear HKC HKA HKB HN1 HN2 HhB
        obtain ⟨w2, hX⟩ : ∃ X, X = y.w := ⟨_, rfl⟩
        have hb := y.bel
        rw [← hX] at hb
        rw [← hX]
        clear hX x0 x1 x2 ya0 ya1 ya2 ya3 yb0 yb1 yb2 yb3 HQ0 HQ1 HQ2 HQ3
        clear y
        replace KC := KC.later hb
        replace KA := KA.later hb
        replace KB := KB.later hb
        replace N1 := N1.later hb
        replace N2 := N2.later hb
        replace hB := hB.trans (hb.mono hB.size)
        clear hb
        have ya0 : World.cell? _ ⟨w.heap.size + 1, 0, none⟩ = some (.int .i64 a.kind) := KA.cell 0
        have ya1 : World.cell? _ ⟨w.heap.size + 1, 1, none⟩ = some (.int .i64 a.obj) := KA.cell 1
        have ya2 : World.cell? _ ⟨w.heap.size + 1, 2, none⟩ = some (.int .i64 a.a) := KA.cell 2
        have ya3 : World.cell? _ ⟨w.heap.size + 1, 3, none⟩ = some (.int .i64 a.b) := KA.cell 3
        have yal := KA.lt
        have yb0 : World.cell? _ ⟨w.heap.size + 1 + 1, 0, none⟩ = some (.int .i64 b.kind) := KB.cell 0
        have yb1 : World.cell? _ ⟨w.heap.size + 1 + 1, 1, none⟩ = some (.int .i64 b.obj) := KB.cell 1
        have yb2 : World.cell? _ ⟨w.heap.size + 1 + 1, 2, none⟩ = some (.int .i64 b.a) := KB.cell 2
        have yb3 : World.cell? _ ⟨w.heap.size + 1 + 1, 3, none⟩ = some (.int .i64 b.b) := KB.cell 3
        have ybl := KB.lt
        have HKC := Lib.hid KC
        have HKA := Lib.hid KA
        have HKB := Lib.hid KB
        have HN1 := Lib.hid N1
        have HN2 := Lib.hid N2
        have HhB := Lib.hid hB
        clear KC KA KB N1 N2 hB
        go_wp2_with fail
        clear ya0 ya1 ya2 ya3 yal yb0 yb1 yb2 yb3 ybl
        have KC := HKC.out
        have KA := HKA.out
        have KB := HKB.out
        have N1 := HN1.out
        have N2 := HN2.out
        have hB := HhB.out
        clear HKC HKA HKB HN1 HN2 HhB
        refine (comm_at a b false hR _).mono ?_
        rintro e w3 ⟨rfl, hb⟩
        replace KC := KC.later hb
        replace KA := KA.later hb
        replace KB := KB.later hb
        replace N1 := N1.later hb
        replace N2 := N2.later hb
        replace hB := hB.trans (hb.mono hB.size)
        clear hb
        have hk := comm_false hR
        obtain ⟨p, hp⟩ : ∃ p, kindOf b.kind = p := ⟨_, rfl⟩
        rw [hp] at hk
        have hcur : Below w3.heap.size w3 w3 := Below.refl _ _
        have ya0 := fun (y : After w3) => (y.cell KA.lt).trans (KA.cell 0)
        have ya0 : ∀ y : After w3, World.cell? y.w ⟨w.heap.size + 1, 0, none⟩ = some (.int .i64 a.kind) := ya0
        have ya1 := fun (y : After w3) => (y.cell KA.lt).trans (KA.cell 1)
        have ya1 : ∀ y : After w3, World.cell? y.w ⟨w.heap.size + 1, 1, none⟩ = some (.int .i64 a.obj) := ya1
        have ya2 := fun (y : After w3) => (y.cell KA.lt).trans (KA.cell 2)
        have ya2 : ∀ y : After w3, World.cell? y.w ⟨w.heap.size + 1, 2, none⟩ = some (.int .i64 a.a) := ya2
        have ya3 := fun (y : After w3) => (y.cell KA.lt).trans (KA.cell 3)
        have ya3 : ∀ y : After w3, World.cell? y.w ⟨w.heap.size + 1, 3, none⟩ = some (.int .i64 a.b) := ya3
        have yb0 := fun (y : After w3) => (y.cell KB.lt).trans (KB.cell 0)
        have yb0 : ∀ y : After w3, World.cell? y.w ⟨w.heap.size + 1 + 1, 0, none⟩ = some (.int .i64 b.kind) := yb0
        have yb1 := fun (y : After w3) => (y.cell KB.lt).trans (KB.cell 1)
        have yb1 : ∀ y : After w3, World.cell? y.w ⟨w.heap.size + 1 + 1, 1, none⟩ = some (.int .i64 b.obj) := yb1
        have yb2 := fun (y : After w3) => (y.cell KB.lt).trans (KB.cell 2)
        have yb2 : ∀ y : After w3, World.cell? y.w ⟨w.heap.size + 1 + 1, 2, none⟩ = some (.int .i64 b.a) := yb2
        have yb3 := fun (y : After w3) => (y.cell KB.lt).trans (KB.cell 3)
        have yb3 : ∀ y : After w3, World.cell? y.w ⟨w.heap.size + 1 + 1, 3, none⟩ = some (.int .i64 b.b) := yb3
        have HQ0 := Lib.hid fun (y : After w3) => of_at a.kind p hk y.w
        have HQ1 := Lib.hid fun (y : After w3) => of_at b.kind p hp y.w
        clear hcur
        have HKC := Lib.hid KC
        have HKA := Lib.hid KA
        have HKB := Lib.hid KB
        have HN1 := Lib.hid N1
        have HN2 := Lib.hid N2
        have HhB := Lib.hid hB
        clear KC KA KB N1 N2 hB
        go_wp2_with fail
        refine wp_region_after (by kernel_rfl) (by kernel_rfl) ?_
        repeat (go_big_quiet_step (first | (go_at_call 14; with_reducible exact calls_after (HQ0.out _)) | (go_at_call 14; with_reducible exact calls_after (HQ1.out _))))
        refine wpQuiet_nil ?_
        rintro _ ⟨y, rfl⟩
        have KC := HKC.out
        have KA := HKA.out
        have KB := HKB.out
        have N1 := HN1.out
        have N2 := HN2.out
        have hB := HhB.out
        clear HKC HKA HKB HN1 HN2 HhB
        obtain ⟨w4, hX⟩ : ∃ X, X = y.w := ⟨_, rfl⟩
        have hb := y.bel
        rw [← hX] at hb
        rw [← hX]
        clear hX ya0 ya1 ya2 ya3 yb0 yb1 yb2 yb3 HQ0 HQ1
        clear y
        replace KC := KC.later hb
        replace KA := KA.later hb
        replace KB := KB.later hb
        replace N1 := N1.later hb
        replace N2 := N2.later hb
        replace hB := hB.trans (hb.mono hB.size)
        clear hb
        have hpp : (p == p) = true := by simp
        have HKC := Lib.hid KC
        have HKA := Lib.hid KA
        have HKB := Lib.hid KB
        have HN1 := Lib.hid N1
        have HN2 := Lib.hid N2
        have HhB := Lib.hid hB
        clear KC KA KB N1 N2 hB
        go_wp2_with fail
        have KC := HKC.out
        have KA := HKA.out
        have KB := HKB.out
        have N1 := HN1.out
        have N2 := HN2.out
        have hB := HhB.out
        clear HKC HKA HKB HN1 HN2 HhB
        go_ret
        exact ⟨rfl, hB⟩
      case true =>
        have hcur : Below w1.heap.size w1 w1 := Below.refl _ _
        have x0 := fun (y : After w1) => (y.cell KC.lt).trans (KC.cell 0)
        have x0 : ∀ y : After w1, World.cell? y.w ⟨w.heap.size, 0, none⟩ = some (.int .i64 k) := x0
        have x1 := fun (y : After w1) => (y.cell KC.lt).trans (KC.cell 1)
        have x1 : ∀ y : After w1, World.cell? y.w ⟨w.heap.size, 1, none⟩ = some (.slice kp kn kc) := x1
        have x2 := fun (y : After w1) => (y.cell KC.lt).trans (KC.cell 2)
        have x2 : ∀ y : After w1, World.cell? y.w ⟨w.heap.size, 2, none⟩ = some (.slice vp vn vc) := x2
        have ya0 := fun (y : After w1) => (y.cell KA.lt).trans (KA.cell 0)
        have ya0 : ∀ y : After w1, World.cell? y.w ⟨w.heap.size + 1, 0, none⟩ = some (.int .i64 a.kind) := ya0
        have ya1 := fun (y : After w1) => (y.cell KA.lt).trans (KA.cell 1)
        have ya1 : ∀ y : After w1, World.cell? y.w ⟨w.heap.size + 1, 1, none⟩ = some (.int .i64 a.obj) := ya1
        have ya2 := fun (y : After w1) => (y.cell KA.lt).trans (KA.cell 2)
        have ya2 : ∀ y : After w1, World.cell? y.w ⟨w.heap.size + 1, 2, none⟩ = some (.int .i64 a.a) := ya2
        have ya3 := fun (y : After w1) => (y.cell KA.lt).trans (KA.cell 3)
        have ya3 : ∀ y : After w1, World.cell? y.w ⟨w.heap.size + 1, 3, none⟩ = some (.int .i64 a.b) := ya3
        have yb0 := fun (y : After w1) => (y.cell KB.lt).trans (KB.cell 0)
        have yb0 : ∀ y : After w1, World.cell? y.w ⟨w.heap.size + 1 + 1, 0, none⟩ = some (.int .i64 b.kind) := yb0
        have yb1 := fun (y : After w1) => (y.cell KB.lt).trans (KB.cell 1)
        have yb1 : ∀ y : After w1, World.cell? y.w ⟨w.heap.size + 1 + 1, 1, none⟩ = some (.int .i64 b.obj) := yb1
        have yb2 := fun (y : After w1) => (y.cell KB.lt).trans (KB.cell 2)
        have yb2 : ∀ y : After w1, World.cell? y.w ⟨w.heap.size + 1 + 1, 2, none⟩ = some (.int .i64 b.a) := yb2
        have yb3 := fun (y : After w1) => (y.cell KB.lt).trans (KB.cell 3)
        have yb3 : ∀ y : After w1, World.cell? y.w ⟨w.heap.size + 1 + 1, 3, none⟩ = some (.int .i64 b.b) := yb3
        have HQ0 := Lib.hid fun (y : After w1) => few_at k kn vn true (decide_eq_true hf) kp vp kc vc y.w
        have HQ1 := Lib.hid fun (y : After w1) => cright_at ⟨k, ks, vs⟩ true hr kn vn n1 n2 kp vp kc vc y.w (N1.later y.bel) (by omega) (by omega)
        have HQ2 := Lib.hid fun (y : After w1) => comm_at a b true hR y.w
        have HQ3 := Lib.hid fun (y : After w1) => comm_at b a true hR2 y.w
        clear hcur
        have HKC := Lib.hid KC
        have HKA := Lib.hid KA
        have HKB := Lib.hid KB
        have HN1 := Lib.hid N1
        have HN2 := Lib.hid N2
        have HhB := Lib.hid hB
        clear KC KA KB N1 N2 hB
        go_wp2_with fail
        refine wp_region_after (by kernel_rfl) (by kernel_rfl) ?_
        repeat (go_big_quiet_step (first | (go_at_call 9; with_reducible exact calls_after (HQ0.out _)) | (go_at_call 10; with_reducible exact calls_after (HQ1.out _)) | (go_at_call 13; with_reducible exact calls_after (HQ2.out _)) | (go_at_call 13; with_reducible exact calls_after (HQ3.out _))))
        refine wpQuiet_nil ?_
        rintro _ ⟨y, rfl⟩
        have KC := HKC.out
        have KA := HKA.out
        have KB := HKB.out
        have N1 := HN1.out
        have N2 := HN2.out
        have hB := HhB.out
        clear HKC HKA HKB HN1 HN2 HhB
        obtain ⟨w2, hX⟩ : ∃ X, X = y.w := ⟨_, rfl⟩
        have hb := y.bel
        rw [← hX] at hb
        rw [← hX]
        clear hX x0 x1 x2 ya0 ya1 ya2 ya3 yb0 yb1 yb2 yb3 HQ0 HQ1 HQ2 HQ3
        clear y
        replace KC := KC.later hb
        replace KA := KA.later hb
        replace KB := KB.later hb
        replace N1 := N1.later hb
        replace N2 := N2.later hb
        replace hB := hB.trans (hb.mono hB.size)
        clear hb
        have ya0 : World.cell? _ ⟨w.heap.size + 1, 0, none⟩ = some (.int .i64 a.kind) := KA.cell 0
        have ya1 : World.cell? _ ⟨w.heap.size + 1, 1, none⟩ = some (.int .i64 a.obj) := KA.cell 1
        have ya2 : World.cell? _ ⟨w.heap.size + 1, 2, none⟩ = some (.int .i64 a.a) := KA.cell 2
        have ya3 : World.cell? _ ⟨w.heap.size + 1, 3, none⟩ = some (.int .i64 a.b) := KA.cell 3
        have yal := KA.lt
        have yb0 : World.cell? _ ⟨w.heap.size + 1 + 1, 0, none⟩ = some (.int .i64 b.kind) := KB.cell 0
        have yb1 : World.cell? _ ⟨w.heap.size + 1 + 1, 1, none⟩ = some (.int .i64 b.obj) := KB.cell 1
        have yb2 : World.cell? _ ⟨w.heap.size + 1 + 1, 2, none⟩ = some (.int .i64 b.a) := KB.cell 2
        have yb3 : World.cell? _ ⟨w.heap.size + 1 + 1, 3, none⟩ = some (.int .i64 b.b) := KB.cell 3
        have ybl := KB.lt
        have HKC := Lib.hid KC
        have HKA := Lib.hid KA
        have HKB := Lib.hid KB
        have HN1 := Lib.hid N1
        have HN2 := Lib.hid N2
        have HhB := Lib.hid hB
        clear KC KA KB N1 N2 hB
        go_wp2_with fail
        clear ya0 ya1 ya2 ya3 yal yb0 yb1 yb2 yb3 ybl
        have KC := HKC.out
        have KA := HKA.out
        have KB := HKB.out
        have N1 := HN1.out
        have N2 := HN2.out
        have hB := HhB.out
        clear HKC HKA HKB HN1 HN2 HhB
        refine (comm_at a b true hR _).mono ?_
        rintro e w3 ⟨rfl, hb⟩
        replace KC := KC.later hb
        replace KA := KA.later hb
        replace KB := KB.later hb
        replace N1 := N1.later hb
        replace N2 := N2.later hb
        replace hB := hB.trans (hb.mono hB.size)
        clear hb
        obtain ⟨ks1, vs1, t1, t2, b1, b2, hd1, hd2, q1, q2⟩ := all_two a b hr hR
        dsimp only at hd1 hd2 q1 q2
        rw [n1] at q1
        rw [n2] at q2
        obtain ⟨nk, hnk⟩ : ∃ n, ks1.length = n := ⟨_, rfl⟩
        obtain ⟨nv, hnv⟩ : ∃ n, vs1.length = n := ⟨_, rfl⟩
        rw [hnk] at q1
        rw [hnv] at q2
        have x0 : World.cell? _ ⟨w.heap.size, 0, none⟩ = some (.int .i64 k) := KC.cell 0
        have x1 : World.cell? _ ⟨w.heap.size, 1, none⟩ = some (.slice kp kn kc) := KC.cell 1
        have x2 : World.cell? _ ⟨w.heap.size, 2, none⟩ = some (.slice vp vn vc) := KC.cell 2
        have xl := KC.lt
        have ya0 : World.cell? _ ⟨w.heap.size + 1, 0, none⟩ = some (.int .i64 a.kind) := KA.cell 0
        have ya1 : World.cell? _ ⟨w.heap.size + 1, 1, none⟩ = some (.int .i64 a.obj) := KA.cell 1
        have ya2 : World.cell? _ ⟨w.heap.size + 1, 2, none⟩ = some (.int .i64 a.a) := KA.cell 2
        have ya3 : World.cell? _ ⟨w.heap.size + 1, 3, none⟩ = some (.int .i64 a.b) := KA.cell 3
        have yal := KA.lt
        have yb0 : World.cell? _ ⟨w.heap.size + 1 + 1, 0, none⟩ = some (.int .i64 b.kind) := KB.cell 0
        have yb1 : World.cell? _ ⟨w.heap.size + 1 + 1, 1, none⟩ = some (.int .i64 b.obj) := KB.cell 1
        have yb2 : World.cell? _ ⟨w.heap.size + 1 + 1, 2, none⟩ = some (.int .i64 b.a) := KB.cell 2
        have yb3 : World.cell? _ ⟨w.heap.size + 1 + 1, 3, none⟩ = some (.int .i64 b.b) := KB.cell 3
        have ybl := KB.lt
        obtain ⟨V4, hV⟩ : ∃ V, V = w3.alloc (Obj.cells #[.int .i64 a.kind, .int .i64 a.obj, .int .i64 a.a, .int .i64 a.b, .int .i64 b.kind, .int .i64 b.obj, .int .i64 b.a, .int .i64 b.b] 26) := ⟨_, rfl⟩
        have hod : Ods V4 (some ⟨w3.heap.size, 0, none⟩) [a, b] := Ods.of_blk (t := 26) (cs := #[.int .i64 a.kind, .int .i64 a.obj, .int .i64 a.a, .int .i64 a.b, .int .i64 b.kind, .int .i64 b.obj, .int .i64 b.a, .int .i64 b.b]) (by rw [hV]; exact Blk.made _ _ _) rfl
        have hbv : Below w3.heap.size w3 V4 := by rw [hV]; exact below_alloc1 _ _
        replace KC := KC.later hbv
        replace KA := KA.later hbv
        replace KB := KB.later hbv
        replace N1 := N1.later hbv
        replace N2 := N2.later hbv
        replace hB := hB.trans (hbv.mono hB.size)
        clear hbv
        have HU := Lib.hid hV
        clear hV
        have HKC := Lib.hid KC
        have HKA := Lib.hid KA
        have HKB := Lib.hid KB
        have HN1 := Lib.hid N1
        have HN2 := Lib.hid N2
        have Hhod := Lib.hid hod
        have HhB := Lib.hid hB
        clear KC KA KB N1 N2 hod hB
        go_wp2_with fail
        clear x0 x1 x2 xl ya0 ya1 ya2 ya3 yal yb0 yb1 yb2 yb3 ybl
        have KC := HKC.out
        have KA := HKA.out
        have KB := HKB.out
        have N1 := HN1.out
        have N2 := HN2.out
        have hod := Hhod.out
        have hB := HhB.out
        clear HKC HKA HKB HN1 HN2 Hhod HhB
        rw [← HU.out]
        clear HU
        refine (all_at ⟨k, ks, vs⟩ [a, b] 2 rfl _ _ _ _ _ hd1 kn vn n1 n2 _ _ _ _ _ _ _ N1 N2 hod (by omega) (by omega) (by omega) nk nv hnk hnv).mono ?_
        rintro e w5 ⟨kp1, kc1, vp1, vc1, ga1, gb1, rfl, P1, Q1, T1, B1, hb⟩
        replace KC := KC.later hb
        replace KA := KA.later hb
        replace KB := KB.later hb
        replace N1 := N1.later hb
        replace N2 := N2.later hb
        replace hod := hod.later hb
        replace hB := hB.trans (hb.mono hB.size)
        clear hb
        clear hod
        have x0 : World.cell? _ ⟨w.heap.size, 0, none⟩ = some (.int .i64 k) := KC.cell 0
        have x1 : World.cell? _ ⟨w.heap.size, 1, none⟩ = some (.slice kp kn kc) := KC.cell 1
        have x2 : World.cell? _ ⟨w.heap.size, 2, none⟩ = some (.slice vp vn vc) := KC.cell 2
        have xl := KC.lt
        have ya0 : World.cell? _ ⟨w.heap.size + 1, 0, none⟩ = some (.int .i64 a.kind) := KA.cell 0
        have ya1 : World.cell? _ ⟨w.heap.size + 1, 1, none⟩ = some (.int .i64 a.obj) := KA.cell 1
        have ya2 : World.cell? _ ⟨w.heap.size + 1, 2, none⟩ = some (.int .i64 a.a) := KA.cell 2
        have ya3 : World.cell? _ ⟨w.heap.size + 1, 3, none⟩ = some (.int .i64 a.b) := KA.cell 3
        have yal := KA.lt
        have yb0 : World.cell? _ ⟨w.heap.size + 1 + 1, 0, none⟩ = some (.int .i64 b.kind) := KB.cell 0
        have yb1 : World.cell? _ ⟨w.heap.size + 1 + 1, 1, none⟩ = some (.int .i64 b.obj) := KB.cell 1
        have yb2 : World.cell? _ ⟨w.heap.size + 1 + 1, 2, none⟩ = some (.int .i64 b.a) := KB.cell 2
        have yb3 : World.cell? _ ⟨w.heap.size + 1 + 1, 3, none⟩ = some (.int .i64 b.b) := KB.cell 3
        have ybl := KB.lt
        obtain ⟨V5, hV⟩ : ∃ V, V = w5.alloc (Obj.cells #[.int .i64 k, .slice kp1 nk kc1, .slice vp1 nv vc1] 24) := ⟨_, rfl⟩
        have KX1 : Blk V5 w5.heap.size 24 #[.int .i64 k, .slice kp1 nk kc1, .slice vp1 nv vc1] := by rw [hV]; exact Blk.made _ _ _
        have hbv : Below w5.heap.size w5 V5 := by rw [hV]; exact below_alloc1 _ _
        replace KC := KC.later hbv
        replace KA := KA.later hbv
        replace KB := KB.later hbv
        replace N1 := N1.later hbv
        replace N2 := N2.later hbv
        replace P1 := P1.later hbv
        replace Q1 := Q1.later hbv
        replace T1 := T1.later hbv
        replace B1 := B1.later hbv
        replace hB := hB.trans (hbv.mono hB.size)
        clear hbv
        have HV := Lib.hid hV
        clear hV
        obtain ⟨V6, hV⟩ : ∃ V, V = V5.alloc (Obj.cells #[.int .i64 b.kind, .int .i64 b.obj, .int .i64 b.a, .int .i64 b.b, .int .i64 a.kind, .int .i64 a.obj, .int .i64 a.a, .int .i64 a.b] 26) := ⟨_, rfl⟩
        have hod : Ods V6 (some ⟨V5.heap.size, 0, none⟩) [b, a] := Ods.of_blk (t := 26) (cs := #[.int .i64 b.kind, .int .i64 b.obj, .int .i64 b.a, .int .i64 b.b, .int .i64 a.kind, .int .i64 a.obj, .int .i64 a.a, .int .i64 a.b]) (by rw [hV]; exact Blk.made _ _ _) rfl
        have hbv : Below V5.heap.size V5 V6 := by rw [hV]; exact below_alloc1 _ _
        replace KC := KC.later hbv
        replace KA := KA.later hbv
        replace KB := KB.later hbv
        replace N1 := N1.later hbv
        replace N2 := N2.later hbv
        replace P1 := P1.later hbv
        replace Q1 := Q1.later hbv
        replace T1 := T1.later hbv
        replace B1 := B1.later hbv
        replace KX1 := KX1.later hbv
        replace hB := hB.trans (hbv.mono hB.size)
        clear hbv
        rw [show V5.heap.size = w5.heap.size + 1 from by rw [HV.out]; simp] at hod
        have HU := Lib.hid hV
        clear hV
        have HKC := Lib.hid KC
        have HKA := Lib.hid KA
        have HKB := Lib.hid KB
        have HN1 := Lib.hid N1
        have HN2 := Lib.hid N2
        have HP1 := Lib.hid P1
        have HQ1 := Lib.hid Q1
        have HT1 := Lib.hid T1
        have HB1 := Lib.hid B1
        have HKX1 := Lib.hid KX1
        have Hhod := Lib.hid hod
        have HhB := Lib.hid hB
        clear KC KA KB N1 N2 P1 Q1 T1 B1 KX1 hod hB
        go_wp2_with fail
        clear x0 x1 x2 xl ya0 ya1 ya2 ya3 yal yb0 yb1 yb2 yb3 ybl
        have KC := HKC.out
        have KA := HKA.out
        have KB := HKB.out
        have N1 := HN1.out
        have N2 := HN2.out
        have P1 := HP1.out
        have Q1 := HQ1.out
        have T1 := HT1.out
        have B1 := HB1.out
        have KX1 := HKX1.out
        have hod := Hhod.out
        have hB := HhB.out
        clear HKC HKA HKB HN1 HN2 HP1 HQ1 HT1 HB1 HKX1 Hhod HhB
        rw [← HV.out]
        clear HV
        rw [← HU.out]
        clear HU
        refine (all_at ⟨k, ks, vs⟩ [b, a] 2 rfl _ _ _ _ _ hd2 kn vn n1 n2 _ _ _ _ _ _ _ N1 N2 hod (by omega) (by omega) (by omega) nk nv hnk hnv).mono ?_
        rintro e w7 ⟨kp2, kc2, vp2, vc2, ga2, gb2, rfl, P2, Q2, T2, B2, hb⟩
        replace KC := KC.later hb
        replace KA := KA.later hb
        replace KB := KB.later hb
        replace N1 := N1.later hb
        replace N2 := N2.later hb
        replace P1 := P1.later hb
        replace Q1 := Q1.later hb
        replace T1 := T1.later hb
        replace B1 := B1.later hb
        replace KX1 := KX1.later hb
        replace hod := hod.later hb
        replace hB := hB.trans (hb.mono hB.size)
        clear hb
        clear hod
        have z0 : World.cell? _ ⟨w5.heap.size, 0, none⟩ = some (.int .i64 k) := KX1.cell 0
        have z1 : World.cell? _ ⟨w5.heap.size, 1, none⟩ = some (.slice kp1 nk kc1) := KX1.cell 1
        have z2 : World.cell? _ ⟨w5.heap.size, 2, none⟩ = some (.slice vp1 nv vc1) := KX1.cell 2
        have zl := KX1.lt
        obtain ⟨V7, hV⟩ : ∃ V, V = w7.alloc (Obj.cells #[.int .i64 k, .slice kp2 nk kc2, .slice vp2 nv vc2] 24) := ⟨_, rfl⟩
        have KX2 : Blk V7 w7.heap.size 24 #[.int .i64 k, .slice kp2 nk kc2, .slice vp2 nv vc2] := by rw [hV]; exact Blk.made _ _ _
        have hbv : Below w7.heap.size w7 V7 := by rw [hV]; exact below_alloc1 _ _
        replace KC := KC.later hbv
        replace KA := KA.later hbv
        replace KB := KB.later hbv
        replace N1 := N1.later hbv
        replace N2 := N2.later hbv
        replace P1 := P1.later hbv
        replace Q1 := Q1.later hbv
        replace T1 := T1.later hbv
        replace B1 := B1.later hbv
        replace KX1 := KX1.later hbv
        replace P2 := P2.later hbv
        replace Q2 := Q2.later hbv
        replace T2 := T2.later hbv
        replace B2 := B2.later hbv
        replace hB := hB.trans (hbv.mono hB.size)
        clear hbv
        have HV := Lib.hid hV
        clear hV
        have HKC := Lib.hid KC
        have HKA := Lib.hid KA
        have HKB := Lib.hid KB
        have HN1 := Lib.hid N1
        have HN2 := Lib.hid N2
        have HP1 := Lib.hid P1
        have HQ1 := Lib.hid Q1
        have HT1 := Lib.hid T1
        have HB1 := Lib.hid B1
        have HKX1 := Lib.hid KX1
        have HP2 := Lib.hid P2
        have HQ2 := Lib.hid Q2
        have HT2 := Lib.hid T2
        have HB2 := Lib.hid B2
        have HKX2 := Lib.hid KX2
        have HhB := Lib.hid hB
        clear KC KA KB N1 N2 P1 Q1 T1 B1 KX1 P2 Q2 T2 B2 KX2 hB
        go_wp2_with fail
        clear z0 z1 z2 zl
        have KC := HKC.out
        have KA := HKA.out
        have KB := HKB.out
        have N1 := HN1.out
        have N2 := HN2.out
        have P1 := HP1.out
        have Q1 := HQ1.out
        have T1 := HT1.out
        have B1 := HB1.out
        have KX1 := HKX1.out
        have P2 := HP2.out
        have Q2 := HQ2.out
        have T2 := HT2.out
        have B2 := HB2.out
        have KX2 := HKX2.out
        have hB := HhB.out
        clear HKC HKA HKB HN1 HN2 HP1 HQ1 HT1 HB1 HKX1 HP2 HQ2 HT2 HB2 HKX2 HhB
        rw [← HV.out]
        clear HV
        have hcur : Below V7.heap.size V7 V7 := Below.refl _ _
        have x0 := fun (y : After V7) => (y.cell KX1.lt).trans (KX1.cell 0)
        have x0 : ∀ y : After V7, World.cell? y.w ⟨w5.heap.size, 0, none⟩ = some (.int .i64 k) := x0
        have x1 := fun (y : After V7) => (y.cell KX1.lt).trans (KX1.cell 1)
        have x1 : ∀ y : After V7, World.cell? y.w ⟨w5.heap.size, 1, none⟩ = some (.slice kp1 nk kc1) := x1
        have x2 := fun (y : After V7) => (y.cell KX1.lt).trans (KX1.cell 2)
        have x2 : ∀ y : After V7, World.cell? y.w ⟨w5.heap.size, 2, none⟩ = some (.slice vp1 nv vc1) := x2
        have z0 := fun (y : After V7) => (y.cell KX2.lt).trans (KX2.cell 0)
        have z0 : ∀ y : After V7, World.cell? y.w ⟨w7.heap.size, 0, none⟩ = some (.int .i64 k) := z0
        have z1 := fun (y : After V7) => (y.cell KX2.lt).trans (KX2.cell 1)
        have z1 : ∀ y : After V7, World.cell? y.w ⟨w7.heap.size, 1, none⟩ = some (.slice kp2 nk kc2) := z1
        have z2 := fun (y : After V7) => (y.cell KX2.lt).trans (KX2.cell 2)
        have z2 : ∀ y : After V7, World.cell? y.w ⟨w7.heap.size, 2, none⟩ = some (.slice vp2 nv vc2) := z2
        have c1 := fun (y : After V7) => (y.cell (T1.got 0 _ rfl).1).trans (T1.got 0 _ rfl).2
        have c2 := fun (y : After V7) => (y.cell (T1.got 1 _ rfl).1).trans (T1.got 1 _ rfl).2
        have c3 := fun (y : After V7) => (y.cell (T2.got 0 _ rfl).1).trans (T2.got 0 _ rfl).2
        have c4 := fun (y : After V7) => (y.cell (T2.got 1 _ rfl).1).trans (T2.got 1 _ rfl).2
        have c5 := fun (y : After V7) => (y.cell (B1.got 0 _ rfl).1).trans (B1.got 0 _ rfl).2
        have c6 := fun (y : After V7) => (y.cell (B1.got 1 _ rfl).1).trans (B1.got 1 _ rfl).2
        have c7 := fun (y : After V7) => (y.cell (B2.got 0 _ rfl).1).trans (B2.got 0 _ rfl).2
        have c8 := fun (y : After V7) => (y.cell (B2.got 1 _ rfl).1).trans (B2.got 1 _ rfl).2
        have HQ0 := Lib.hid fun (y : After V7) => same_at ⟨k, ks1, vs1⟩ ⟨k, ks1, vs1⟩ true (decide_eq_true rfl) nk nv nk nv hnk hnv hnk hnv kp1 vp1 kp2 vp2 kc1 vc1 kc2 vc2 y.w (P1.later y.bel) (Q1.later y.bel) (P2.later y.bel) (Q2.later y.bel) (by omega) (by omega) (by omega) (by omega)
        clear hcur
        have HKC := Lib.hid KC
        have HKA := Lib.hid KA
        have HKB := Lib.hid KB
        have HN1 := Lib.hid N1
        have HN2 := Lib.hid N2
        have HP1 := Lib.hid P1
        have HQ1 := Lib.hid Q1
        have HT1 := Lib.hid T1
        have HB1 := Lib.hid B1
        have HKX1 := Lib.hid KX1
        have HP2 := Lib.hid P2
        have HQ2 := Lib.hid Q2
        have HT2 := Lib.hid T2
        have HB2 := Lib.hid B2
        have HKX2 := Lib.hid KX2
        have HhB := Lib.hid hB
        clear KC KA KB N1 N2 P1 Q1 T1 B1 KX1 P2 Q2 T2 B2 KX2 hB
        go_wp2_with fail
        refine wp_region_after (by kernel_rfl) (by kernel_rfl) ?_
        repeat (go_big_quiet_step (first | (go_at_call 12; with_reducible exact calls_after (HQ0.out _))))
        refine wpQuiet_nil ?_
        rintro _ ⟨y, rfl⟩
        have KC := HKC.out
        have KA := HKA.out
        have KB := HKB.out
        have N1 := HN1.out
        have N2 := HN2.out
        have P1 := HP1.out
        have Q1 := HQ1.out
        have T1 := HT1.out
        have B1 := HB1.out
        have KX1 := HKX1.out
        have P2 := HP2.out
        have Q2 := HQ2.out
        have T2 := HT2.out
        have B2 := HB2.out
        have KX2 := HKX2.out
        have hB := HhB.out
        clear HKC HKA HKB HN1 HN2 HP1 HQ1 HT1 HB1 HKX1 HP2 HQ2 HT2 HB2 HKX2 HhB
        obtain ⟨w8, hX⟩ : ∃ X, X = y.w := ⟨_, rfl⟩
        have hb := y.bel
        rw [← hX] at hb
        rw [← hX]
        clear hX x0 x1 x2 z0 z1 z2 c1 c2 c3 c4 c5 c6 c7 c8 HQ0
        clear y
        replace KC := KC.later hb
        replace KA := KA.later hb
        replace KB := KB.later hb
        replace N1 := N1.later hb
        replace N2 := N2.later hb
        replace P1 := P1.later hb
        replace Q1 := Q1.later hb
        replace T1 := T1.later hb
        replace B1 := B1.later hb
        replace KX1 := KX1.later hb
        replace P2 := P2.later hb
        replace Q2 := Q2.later hb
        replace T2 := T2.later hb
        replace B2 := B2.later hb
        replace KX2 := KX2.later hb
        replace hB := hB.trans (hb.mono hB.size)
        clear hb
        have e1 : (t1 == t1) = true := by simp
        have e2 : (t2 == t2) = true := by simp
        have HKC := Lib.hid KC
        have HKA := Lib.hid KA
        have HKB := Lib.hid KB
        have HN1 := Lib.hid N1
        have HN2 := Lib.hid N2
        have HP1 := Lib.hid P1
        have HQ1 := Lib.hid Q1
        have HT1 := Lib.hid T1
        have HB1 := Lib.hid B1
        have HKX1 := Lib.hid KX1
        have HP2 := Lib.hid P2
        have HQ2 := Lib.hid Q2
        have HT2 := Lib.hid T2
        have HB2 := Lib.hid B2
        have HKX2 := Lib.hid KX2
        have HhB := Lib.hid hB
        clear KC KA KB N1 N2 P1 Q1 T1 B1 KX1 P2 Q2 T2 B2 KX2 hB
        go_wp2_with fail
        have KC := HKC.out
        have KA := HKA.out
        have KB := HKB.out
        have N1 := HN1.out
        have N2 := HN2.out
        have P1 := HP1.out
        have Q1 := HQ1.out
        have T1 := HT1.out
        have B1 := HB1.out
        have KX1 := HKX1.out
        have P2 := HP2.out
        have Q2 := HQ2.out
        have T2 := HT2.out
        have B2 := HB2.out
        have KX2 := HKX2.out
        have hB := HhB.out
        clear HKC HKA HKB HN1 HN2 HP1 HQ1 HT1 HB1 HKX1 HP2 HQ2 HT2 HB2 HKX2 HhB
        go_ret
        exact ⟨rfl, hB⟩
  case neg =>
    have hcur : Below w1.heap.size w1 w1 := Below.refl _ _
    have x0 := fun (y : After w1) => (y.cell KC.lt).trans (KC.cell 0)
    have x0 : ∀ y : After w1, World.cell? y.w ⟨w.heap.size, 0, none⟩ = some (.int .i64 k) := x0
    have x1 := fun (y : After w1) => (y.cell KC.lt).trans (KC.cell 1)
    have x1 : ∀ y : After w1, World.cell? y.w ⟨w.heap.size, 1, none⟩ = some (.slice kp kn kc) := x1
    have x2 := fun (y : After w1) => (y.cell KC.lt).trans (KC.cell 2)
    have x2 : ∀ y : After w1, World.cell? y.w ⟨w.heap.size, 2, none⟩ = some (.slice vp vn vc) := x2
    have ya0 := fun (y : After w1) => (y.cell KA.lt).trans (KA.cell 0)
    have ya0 : ∀ y : After w1, World.cell? y.w ⟨w.heap.size + 1, 0, none⟩ = some (.int .i64 a.kind) := ya0
    have ya1 := fun (y : After w1) => (y.cell KA.lt).trans (KA.cell 1)
    have ya1 : ∀ y : After w1, World.cell? y.w ⟨w.heap.size + 1, 1, none⟩ = some (.int .i64 a.obj) := ya1
    have ya2 := fun (y : After w1) => (y.cell KA.lt).trans (KA.cell 2)
    have ya2 : ∀ y : After w1, World.cell? y.w ⟨w.heap.size + 1, 2, none⟩ = some (.int .i64 a.a) := ya2
    have ya3 := fun (y : After w1) => (y.cell KA.lt).trans (KA.cell 3)
    have ya3 : ∀ y : After w1, World.cell? y.w ⟨w.heap.size + 1, 3, none⟩ = some (.int .i64 a.b) := ya3
    have yb0 := fun (y : After w1) => (y.cell KB.lt).trans (KB.cell 0)
    have yb0 : ∀ y : After w1, World.cell? y.w ⟨w.heap.size + 1 + 1, 0, none⟩ = some (.int .i64 b.kind) := yb0
    have yb1 := fun (y : After w1) => (y.cell KB.lt).trans (KB.cell 1)
    have yb1 : ∀ y : After w1, World.cell? y.w ⟨w.heap.size + 1 + 1, 1, none⟩ = some (.int .i64 b.obj) := yb1
    have yb2 := fun (y : After w1) => (y.cell KB.lt).trans (KB.cell 2)
    have yb2 : ∀ y : After w1, World.cell? y.w ⟨w.heap.size + 1 + 1, 2, none⟩ = some (.int .i64 b.a) := yb2
    have yb3 := fun (y : After w1) => (y.cell KB.lt).trans (KB.cell 3)
    have yb3 : ∀ y : After w1, World.cell? y.w ⟨w.heap.size + 1 + 1, 3, none⟩ = some (.int .i64 b.b) := yb3
    have HQ0 := Lib.hid fun (y : After w1) => few_at k kn vn false (decide_eq_false hf) kp vp kc vc y.w
    clear hcur
    have HKC := Lib.hid KC
    have HKA := Lib.hid KA
    have HKB := Lib.hid KB
    have HN1 := Lib.hid N1
    have HN2 := Lib.hid N2
    have HhB := Lib.hid hB
    clear KC KA KB N1 N2 hB
    go_wp2_with fail
    refine wp_region_after (by kernel_rfl) (by kernel_rfl) ?_
    repeat (go_big_quiet_step (first | (go_at_call 9; with_reducible exact calls_after (HQ0.out _))))
    refine wpQuiet_nil ?_
    rintro _ ⟨y, rfl⟩
    have KC := HKC.out
    have KA := HKA.out
    have KB := HKB.out
    have N1 := HN1.out
    have N2 := HN2.out
    have hB := HhB.out
    clear HKC HKA HKB HN1 HN2 HhB
    obtain ⟨w2, hX⟩ : ∃ X, X = y.w := ⟨_, rfl⟩
    have hb := y.bel
    rw [← hX] at hb
    rw [← hX]
    clear hX x0 x1 x2 ya0 ya1 ya2 ya3 yb0 yb1 yb2 yb3 HQ0
    clear y
    replace KC := KC.later hb
    replace KA := KA.later hb
    replace KB := KB.later hb
    replace N1 := N1.later hb
    replace N2 := N2.later hb
    replace hB := hB.trans (hb.mono hB.size)
    clear hb
    have hcur : Below w2.heap.size w2 w2 := Below.refl _ _
    have x0 := fun (y : After w2) => (y.cell KC.lt).trans (KC.cell 0)
    have x0 : ∀ y : After w2, World.cell? y.w ⟨w.heap.size, 0, none⟩ = some (.int .i64 k) := x0
    have x1 := fun (y : After w2) => (y.cell KC.lt).trans (KC.cell 1)
    have x1 : ∀ y : After w2, World.cell? y.w ⟨w.heap.size, 1, none⟩ = some (.slice kp kn kc) := x1
    have x2 := fun (y : After w2) => (y.cell KC.lt).trans (KC.cell 2)
    have x2 : ∀ y : After w2, World.cell? y.w ⟨w.heap.size, 2, none⟩ = some (.slice vp vn vc) := x2
    have ya0 := fun (y : After w2) => (y.cell KA.lt).trans (KA.cell 0)
    have ya0 : ∀ y : After w2, World.cell? y.w ⟨w.heap.size + 1, 0, none⟩ = some (.int .i64 a.kind) := ya0
    have ya1 := fun (y : After w2) => (y.cell KA.lt).trans (KA.cell 1)
    have ya1 : ∀ y : After w2, World.cell? y.w ⟨w.heap.size + 1, 1, none⟩ = some (.int .i64 a.obj) := ya1
    have ya2 := fun (y : After w2) => (y.cell KA.lt).trans (KA.cell 2)
    have ya2 : ∀ y : After w2, World.cell? y.w ⟨w.heap.size + 1, 2, none⟩ = some (.int .i64 a.a) := ya2
    have ya3 := fun (y : After w2) => (y.cell KA.lt).trans (KA.cell 3)
    have ya3 : ∀ y : After w2, World.cell? y.w ⟨w.heap.size + 1, 3, none⟩ = some (.int .i64 a.b) := ya3
    have yb0 := fun (y : After w2) => (y.cell KB.lt).trans (KB.cell 0)
    have yb0 : ∀ y : After w2, World.cell? y.w ⟨w.heap.size + 1 + 1, 0, none⟩ = some (.int .i64 b.kind) := yb0
    have yb1 := fun (y : After w2) => (y.cell KB.lt).trans (KB.cell 1)
    have yb1 : ∀ y : After w2, World.cell? y.w ⟨w.heap.size + 1 + 1, 1, none⟩ = some (.int .i64 b.obj) := yb1
    have yb2 := fun (y : After w2) => (y.cell KB.lt).trans (KB.cell 2)
    have yb2 : ∀ y : After w2, World.cell? y.w ⟨w.heap.size + 1 + 1, 2, none⟩ = some (.int .i64 b.a) := yb2
    have yb3 := fun (y : After w2) => (y.cell KB.lt).trans (KB.cell 3)
    have yb3 : ∀ y : After w2, World.cell? y.w ⟨w.heap.size + 1 + 1, 3, none⟩ = some (.int .i64 b.b) := yb3
    have HQ0 := Lib.hid fun (y : After w2) => comm_at a b R hR y.w
    have HQ1 := Lib.hid fun (y : After w2) => comm_at b a R hR2 y.w
    clear hcur
    have HKC := Lib.hid KC
    have HKA := Lib.hid KA
    have HKB := Lib.hid KB
    have HN1 := Lib.hid N1
    have HN2 := Lib.hid N2
    have HhB := Lib.hid hB
    clear KC KA KB N1 N2 hB
    go_wp2_with fail
    refine wp_region_after (by kernel_rfl) (by kernel_rfl) ?_
    repeat (go_big_quiet_step (first | (go_at_call 13; with_reducible exact calls_after (HQ0.out _)) | (go_at_call 13; with_reducible exact calls_after (HQ1.out _))))
    refine wpQuiet_nil ?_
    rintro _ ⟨y, rfl⟩
    have KC := HKC.out
    have KA := HKA.out
    have KB := HKB.out
    have N1 := HN1.out
    have N2 := HN2.out
    have hB := HhB.out
    clear HKC HKA HKB HN1 HN2 HhB
    obtain ⟨w3, hX⟩ : ∃ X, X = y.w := ⟨_, rfl⟩
    have hb := y.bel
    rw [← hX] at hb
    rw [← hX]
    clear hX x0 x1 x2 ya0 ya1 ya2 ya3 yb0 yb1 yb2 yb3 HQ0 HQ1
    clear y
    replace KC := KC.later hb
    replace KA := KA.later hb
    replace KB := KB.later hb
    replace N1 := N1.later hb
    replace N2 := N2.later hb
    replace hB := hB.trans (hb.mono hB.size)
    clear hb
    have hRR : (R == R) = true := by simp
    have HKC := Lib.hid KC
    have HKA := Lib.hid KA
    have HKB := Lib.hid KB
    have HN1 := Lib.hid N1
    have HN2 := Lib.hid N2
    have HhB := Lib.hid hB
    clear KC KA KB N1 N2 hB
    go_wp2_with fail
    have KC := HKC.out
    have KA := HKA.out
    have KB := HKB.out
    have N1 := HN1.out
    have N2 := HN2.out
    have hB := HhB.out
    clear HKC HKA HKB HN1 HN2 HhB
    go_ret
    exact ⟨rfl, hB⟩
end Go.Proofs.Ythbpoagkfpalfaa
