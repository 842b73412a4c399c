/-
  SPEC: operations, Do.
-/
import Derived.Test.YthbpoagkfpalfaaRows
import Derived.ProofKit
import Derived.Deep.QuietTactic
import Derived.BigQuiet
import Derived.LoopTactic
import Derived.Test.YthbpoagkfpalfaaSpecD
import Derived.Test.YthbpoagkfpalfaaSpecE
import Derived.Deep.RegionHeld3
import Derived.Laws.EntriesVeiled
namespace Go.Proofs.Ythbpoagkfpalfaa
open Go.ChangeShapes Go.WideShapes Go.ChangeAt Go.RowKit

theorem ops_any (w : World) : Calls Try.prog 20 #[] w fun e w' => e = .returned (.agg #[.nilFunc, .func (Fn.func 21) #[] #[], .func (Fn.func 22) #[] #[], .func (Fn.func 23) #[] #[], .func (Fn.func 24) #[] #[], .func (Fn.func 25) #[] #[], .func (Fn.func 26) #[] #[], .func (Fn.func 25) #[] #[]]) ∧ Below w.heap.size w w' := by
  go_enter Try.func20, Try.ntmps20
  go_wp2_with fail
  exact bodyPost_ret (v := .agg #[.nilFunc, .func (Fn.func 21) #[] #[], .func (Fn.func 22) #[] #[], .func (Fn.func 23) #[] #[], .func (Fn.func 24) #[] #[], .func (Fn.func 25) #[] #[], .func (Fn.func 26) #[] #[], .func (Fn.func 25) #[] #[]]) (by simp [results, Try.results20, go_sem]) rfl ⟨rfl, below_alloc1 w _⟩

/-- what an operation makes of any content, and tells -/
def doC (c : ContV) (o : OpV) : ContV × Int × Bool :=
  if kindOf o.kind ≠ c.kind ∨ rightC c = false then (c, 0, false)
  else if o.kind = 1 then getC c o else if o.kind = 2 then putC c o else if o.kind = 3 then delC c o
  else if o.kind = 4 then pushC c o else if o.kind = 6 then sendC c o else firstC c

theorem right_map {c : ContV} (h : rightC c = true) (hk : c.kind = 1) : c.keys.Pairwise (· < ·) ∧ c.keys.length = c.vals.length := by
  unfold rightC at h
  rw [if_pos hk, Bool.and_eq_true] at h
  exact ⟨of_decide_eq_true h.1, of_decide_eq_true h.2⟩
theorem right_kinds {c : ContV} (h : rightC c = true) : c.kind = 1 ∨ c.kind = 2 ∨ c.kind = 3 := by
  unfold rightC at h
  split at h
  · rename_i h1; exact .inl h1
  · split at h
    · rename_i h2; exact .inr h2
    · cases h
theorem kind_cases {k : Int} (h : kindOf k = 1 ∨ kindOf k = 2 ∨ kindOf k = 3) : k = 1 ∨ k = 2 ∨ k = 3 ∨ k = 4 ∨ k = 5 ∨ k = 6 ∨ k = 7 := by
  unfold kindOf at h
  split at h
  · omega
  · split at h
    · omega
    · split at h <;> omega

theorem idx1 (wx : World) : (Instr.index 49 (.agg #[.nilFunc, .func (Fn.func 21) #[] #[], .func (Fn.func 22) #[] #[], .func (Fn.func 23) #[] #[], .func (Fn.func 24) #[] #[], .func (Fn.func 25) #[] #[], .func (Fn.func 26) #[] #[], .func (Fn.func 25) #[] #[]]) (.int .i64 1)).run Try.prog wx = .ok (.func (Fn.func 21) #[] #[]) wx := by
  obtain ⟨i0, hi0, hz⟩ : ∃ i, Try.prog.info? 48 = some i ∧ i.size = 1 := ⟨_, rfl, rfl⟩
  simp [Instr.index, run_underlying Try.underlying49, run_underlying Try.underlying48, asIntOf, sizeOf, typeInfo, part, hi0, hz, go_sem]
theorem idx2 (wx : World) : (Instr.index 49 (.agg #[.nilFunc, .func (Fn.func 21) #[] #[], .func (Fn.func 22) #[] #[], .func (Fn.func 23) #[] #[], .func (Fn.func 24) #[] #[], .func (Fn.func 25) #[] #[], .func (Fn.func 26) #[] #[], .func (Fn.func 25) #[] #[]]) (.int .i64 2)).run Try.prog wx = .ok (.func (Fn.func 22) #[] #[]) wx := by
  obtain ⟨i0, hi0, hz⟩ : ∃ i, Try.prog.info? 48 = some i ∧ i.size = 1 := ⟨_, rfl, rfl⟩
  simp [Instr.index, run_underlying Try.underlying49, run_underlying Try.underlying48, asIntOf, sizeOf, typeInfo, part, hi0, hz, go_sem]
theorem idx3 (wx : World) : (Instr.index 49 (.agg #[.nilFunc, .func (Fn.func 21) #[] #[], .func (Fn.func 22) #[] #[], .func (Fn.func 23) #[] #[], .func (Fn.func 24) #[] #[], .func (Fn.func 25) #[] #[], .func (Fn.func 26) #[] #[], .func (Fn.func 25) #[] #[]]) (.int .i64 3)).run Try.prog wx = .ok (.func (Fn.func 23) #[] #[]) wx := by
  obtain ⟨i0, hi0, hz⟩ : ∃ i, Try.prog.info? 48 = some i ∧ i.size = 1 := ⟨_, rfl, rfl⟩
  simp [Instr.index, run_underlying Try.underlying49, run_underlying Try.underlying48, asIntOf, sizeOf, typeInfo, part, hi0, hz, go_sem]
theorem idx4 (wx : World) : (Instr.index 49 (.agg #[.nilFunc, .func (Fn.func 21) #[] #[], .func (Fn.func 22) #[] #[], .func (Fn.func 23) #[] #[], .func (Fn.func 24) #[] #[], .func (Fn.func 25) #[] #[], .func (Fn.func 26) #[] #[], .func (Fn.func 25) #[] #[]]) (.int .i64 4)).run Try.prog wx = .ok (.func (Fn.func 24) #[] #[]) wx := by
  obtain ⟨i0, hi0, hz⟩ : ∃ i, Try.prog.info? 48 = some i ∧ i.size = 1 := ⟨_, rfl, rfl⟩
  simp [Instr.index, run_underlying Try.underlying49, run_underlying Try.underlying48, asIntOf, sizeOf, typeInfo, part, hi0, hz, go_sem]
theorem idx5 (wx : World) : (Instr.index 49 (.agg #[.nilFunc, .func (Fn.func 21) #[] #[], .func (Fn.func 22) #[] #[], .func (Fn.func 23) #[] #[], .func (Fn.func 24) #[] #[], .func (Fn.func 25) #[] #[], .func (Fn.func 26) #[] #[], .func (Fn.func 25) #[] #[]]) (.int .i64 5)).run Try.prog wx = .ok (.func (Fn.func 25) #[] #[]) wx := by
  obtain ⟨i0, hi0, hz⟩ : ∃ i, Try.prog.info? 48 = some i ∧ i.size = 1 := ⟨_, rfl, rfl⟩
  simp [Instr.index, run_underlying Try.underlying49, run_underlying Try.underlying48, asIntOf, sizeOf, typeInfo, part, hi0, hz, go_sem]
theorem idx6 (wx : World) : (Instr.index 49 (.agg #[.nilFunc, .func (Fn.func 21) #[] #[], .func (Fn.func 22) #[] #[], .func (Fn.func 23) #[] #[], .func (Fn.func 24) #[] #[], .func (Fn.func 25) #[] #[], .func (Fn.func 26) #[] #[], .func (Fn.func 25) #[] #[]]) (.int .i64 6)).run Try.prog wx = .ok (.func (Fn.func 26) #[] #[]) wx := by
  obtain ⟨i0, hi0, hz⟩ : ∃ i, Try.prog.info? 48 = some i ∧ i.size = 1 := ⟨_, rfl, rfl⟩
  simp [Instr.index, run_underlying Try.underlying49, run_underlying Try.underlying48, asIntOf, sizeOf, typeInfo, part, hi0, hz, go_sem]
theorem idx7 (wx : World) : (Instr.index 49 (.agg #[.nilFunc, .func (Fn.func 21) #[] #[], .func (Fn.func 22) #[] #[], .func (Fn.func 23) #[] #[], .func (Fn.func 24) #[] #[], .func (Fn.func 25) #[] #[], .func (Fn.func 26) #[] #[], .func (Fn.func 25) #[] #[]]) (.int .i64 7)).run Try.prog wx = .ok (.func (Fn.func 25) #[] #[]) wx := by
  obtain ⟨i0, hi0, hz⟩ : ∃ i, Try.prog.info? 48 = some i ∧ i.size = 1 := ⟨_, rfl, rfl⟩
  simp [Instr.index, run_underlying Try.underlying49, run_underlying Try.underlying48, asIntOf, sizeOf, typeInfo, part, hi0, hz, go_sem]
set_option maxRecDepth 100000 in
set_option maxHeartbeats 4000000 in
theorem do_any (c : ContV) (o : OpV) (kn vn : Nat) (h1 : c.keys.length = kn) (h2 : c.vals.length = vn) (kp vp : Option Addr) (kc vc : Nat) (w : World) (a1 : Nums w kp kc c.keys) (a2 : Nums w vp vc c.vals) (l1 : kn ≤ 40000) (l2 : vn ≤ 40000) :
    Calls Try.prog 11 #[.agg #[.int .i64 c.kind, .slice kp kn kc, .slice vp vn vc], .agg #[.int .i64 o.kind, .int .i64 o.obj, .int .i64 o.a, .int .i64 o.b]] w (DoPost w c kp vp (doC c o)) := by
  obtain ⟨W, hW⟩ : ∃ W, W = ((w.alloc (Obj.cells #[.int .i64 c.kind, .slice kp kn kc, .slice vp vn vc] 24)).alloc (Obj.cells #[.int .i64 o.kind, .int .i64 o.obj, .int .i64 o.a, .int .i64 o.b] 26)).alloc (Obj.cells #[.int .i64 0, .slice none 0 0, .slice none 0 0] 24) := ⟨_, rfl⟩
  have hbW : Below w.heap.size w W := by rw [hW]; exact below_alloc3 w _ _ _
  have K1 : Blk W w.heap.size 24 #[.int .i64 c.kind, .slice kp kn kc, .slice vp vn vc] := by rw [hW]; exact ((Blk.made w _ _).alloc _).alloc _
  have K2 : Blk W (w.heap.size + 1) 26 #[.int .i64 o.kind, .int .i64 o.obj, .int .i64 o.a, .int .i64 o.b] := by rw [hW]; exact (Blk.made1 w _ _ _).alloc _
  have K3 : Blk W (w.heap.size + 1 + 1) 24 #[.int .i64 0, .slice none 0 0, .slice none 0 0] := by rw [hW]; exact Blk.made2 w _ _ _ _
  have HW := Lib.hid hW
  have HB := Lib.hid hbW
  have HK := Lib.hid (a1.later hbW)
  have HV := Lib.hid (a2.later hbW)
  have H1 := Lib.hid h1
  have H2 := Lib.hid h2
  have hs3 : w.heap.size ≤ w.heap.size + 1 + 1 := by omega
  have HKL := Lib.hid fun h b off e => a1.below h b off e
  have HVL := Lib.hid fun h b off e => a2.below h b off e
  clear hW hbW a1 a2 h1 h2
  obtain ⟨r, hr⟩ : ∃ r, doC c o = r := ⟨_, rfl⟩
  rw [hr]
  unfold doC at hr
  obtain ⟨rt, hrt⟩ : ∃ b, rightC c = b := ⟨_, rfl⟩
  obtain ⟨ko, hko⟩ : ∃ k, kindOf o.kind = k := ⟨_, rfl⟩
  have HOK := Lib.hid hko
  have HRT := Lib.hid fun (y : After W) => (show Calls Try.prog 10 #[.agg #[.int .i64 c.kind, .slice kp kn kc, .slice vp vn vc]] y.w fun e w' => e = .returned (.bool rt) ∧ Below y.w.heap.size y.w w' from by
    rw [← hrt]; exact cright_any c kn vn H1.out H2.out kp vp kc vc y.w (HK.out.later y.bel) (by omega) (by omega))
  by_cases hne : ko = c.kind
  case neg =>
    have HR : Hid (r = (c, 0, false)) := Lib.hid (by rw [← hr, if_pos (.inl (by rw [hko]; exact hne))])
    have d1 : (ko != c.kind) = true := by simp; exact hne
    have d2 : (ko == c.kind) = false := by simp; exact hne
    clear hr hko hrt hne
    have lk1 := K1.lt
    have lk2 := K2.lt
    have cy0 : ∀ y : After W, y.w.cell? ⟨w.heap.size, 0, none⟩ = some (.int .i64 c.kind) := fun y => (y.cell lk1).trans (K1.cell 0)
    have cy1 : ∀ y : After W, y.w.cell? ⟨w.heap.size, 1, none⟩ = some (.slice kp kn kc) := fun y => (y.cell lk1).trans (K1.cell 1)
    have cy2 : ∀ y : After W, y.w.cell? ⟨w.heap.size, 2, none⟩ = some (.slice vp vn vc) := fun y => (y.cell lk1).trans (K1.cell 2)
    have oy0 : ∀ y : After W, y.w.cell? ⟨w.heap.size + 1, 0, none⟩ = some (.int .i64 o.kind) := fun y => (y.cell lk2).trans (K2.cell 0)
    have oy1 : ∀ y : After W, y.w.cell? ⟨w.heap.size + 1, 1, none⟩ = some (.int .i64 o.obj) := fun y => (y.cell lk2).trans (K2.cell 1)
    have oy2 : ∀ y : After W, y.w.cell? ⟨w.heap.size + 1, 2, none⟩ = some (.int .i64 o.a) := fun y => (y.cell lk2).trans (K2.cell 2)
    have oy3 : ∀ y : After W, y.w.cell? ⟨w.heap.size + 1, 3, none⟩ = some (.int .i64 o.b) := fun y => (y.cell lk2).trans (K2.cell 3)
    go_enter Try.func11, Try.ntmps11
    go_wp2_with fail
    rw [← HW.out]
    refine wp_region_after (by kernel_rfl) (by kernel_rfl) ?_
    repeat (go_big_quiet_step (first
      | (go_at_call 14; exact calls_after_same ((of_kind _ _).mono fun _ _ ⟨h1, h2⟩ => ⟨by rw [h1, HOK.out], h2.symm⟩))
      | (go_at_call 10; exact calls_after (HRT.out _))))
    refine wpQuiet_nil ?_
    rintro _ ⟨y, rfl⟩
    obtain ⟨X, hX⟩ : ∃ X, X = y.w := ⟨_, rfl⟩
    have hb := y.bel
    rw [← hX] at hb
    rw [← hX]
    have K1x := K1.later hb
    have K2x := K2.later hb
    have K3x := K3.later hb
    have HKX := Lib.hid (HK.out.later hb)
    have HVX := Lib.hid (HV.out.later hb)
    have HBX := Lib.hid (HB.out.trans (hb.mono HB.out.size))
    clear K1 K2 K3 hX hb y cy0 cy1 cy2 oy0 oy1 oy2 oy3 lk1 lk2
    have K1 := K1x
    have K2 := K2x
    have K3 := K3x
    clear K1x K2x K3x
    have c0 : X.cell? ⟨w.heap.size, 0, none⟩ = some (.int .i64 c.kind) := K1.cell 0
    have c1 : X.cell? ⟨w.heap.size, 1, none⟩ = some (.slice kp kn kc) := K1.cell 1
    have c2 : X.cell? ⟨w.heap.size, 2, none⟩ = some (.slice vp vn vc) := K1.cell 2
    have o0 : X.cell? ⟨w.heap.size + 1, 0, none⟩ = some (.int .i64 o.kind) := K2.cell 0
    have o1 : X.cell? ⟨w.heap.size + 1, 1, none⟩ = some (.int .i64 o.obj) := K2.cell 1
    have o2 : X.cell? ⟨w.heap.size + 1, 2, none⟩ = some (.int .i64 o.a) := K2.cell 2
    have o3 : X.cell? ⟨w.heap.size + 1, 3, none⟩ = some (.int .i64 o.b) := K2.cell 3
    have z0 : X.cell? ⟨w.heap.size + 1 + 1, 0, none⟩ = some (.int .i64 0) := K3.cell 0
    have f0 := K3.free 0
    have z1 : X.cell? ⟨w.heap.size + 1 + 1, 1, none⟩ = some (.slice none 0 0) := K3.cell 1
    have f1 := K3.free 1
    have z2 : X.cell? ⟨w.heap.size + 1 + 1, 2, none⟩ = some (.slice none 0 0) := K3.cell 2
    have f2 := K3.free 2
    go_wp2_with fail
    clear c0 c1 c2 o0 o1 o2 o3 z0 z1 z2 f0 f1 f2 d1 d2
    obtain ⟨WE, hWE⟩ : ∃ WE, WE = (((X.setCell ⟨w.heap.size + 1 + 1, 0, none⟩ (.int .i64 c.kind)).setCell ⟨w.heap.size + 1 + 1, 1, none⟩ (.slice kp kn kc)).setCell ⟨w.heap.size + 1 + 1, 2, none⟩ (.slice vp vn vc)) := ⟨_, rfl⟩
    have KE : Blk WE (w.heap.size + 1 + 1) 24 #[.int .i64 c.kind, .slice kp kn kc, .slice vp vn vc] := by rw [hWE]; exact K3.put3 _ _ _
    have hbE : Below w.heap.size w WE := by rw [hWE]; exact below_set3 HBX.out hs3 _ _ _
    have N1 := Lib.hid (show Nums WE kp kc c.keys from by rw [hWE]; exact HKX.out.far3 _ _ _ _ (fun h b off e => by have := HKL.out h b off e; omega))
    have N2 := Lib.hid (show Nums WE vp vc c.vals from by rw [hWE]; exact HVX.out.far3 _ _ _ _ (fun h b off e => by have := HVL.out h b off e; omega))
    have e0 : WE.cell? ⟨w.heap.size + 1 + 1, 0, none⟩ = some (.int .i64 c.kind) := KE.cell 0
    have e1 : WE.cell? ⟨w.heap.size + 1 + 1, 1, none⟩ = some (.slice kp kn kc) := KE.cell 1
    have e2 : WE.cell? ⟨w.heap.size + 1 + 1, 2, none⟩ = some (.slice vp vn vc) := KE.cell 2
    have HBE := Lib.hid hbE
    rw [← hWE]
    clear hWE KE hbE
    exact bodyPost_ret (v := .tuple #[.agg #[.int .i64 c.kind, .slice kp kn kc, .slice vp vn vc], .int .i64 0, .bool false]) (by simp [results, Try.results11, go_sem, e0, e1, e2]) rfl (DoPost.mk (c.kind) kn vn (0) false kp kc vp vc (by rw [HR.out]) (by rw [HR.out]; exact H1.out) (by rw [HR.out]; exact H2.out) (by rw [HR.out]) (by rw [HR.out]) rfl (by rw [HR.out]; exact N1.out) (by rw [HR.out]; exact N2.out) HBE.out (.inl ⟨rfl, by rw [HR.out]⟩) (.inl ⟨rfl, by rw [HR.out]⟩))
  have d1 : (ko != c.kind) = false := by simp; exact hne
  have d2 : (ko == c.kind) = true := by simp; exact hne
  cases rt
  case false =>
    have HR : Hid (r = (c, 0, false)) := Lib.hid (by rw [← hr, if_pos (.inr hrt)])
    clear hr hko hrt hne
    have lk1 := K1.lt
    have lk2 := K2.lt
    have cy0 : ∀ y : After W, y.w.cell? ⟨w.heap.size, 0, none⟩ = some (.int .i64 c.kind) := fun y => (y.cell lk1).trans (K1.cell 0)
    have cy1 : ∀ y : After W, y.w.cell? ⟨w.heap.size, 1, none⟩ = some (.slice kp kn kc) := fun y => (y.cell lk1).trans (K1.cell 1)
    have cy2 : ∀ y : After W, y.w.cell? ⟨w.heap.size, 2, none⟩ = some (.slice vp vn vc) := fun y => (y.cell lk1).trans (K1.cell 2)
    have oy0 : ∀ y : After W, y.w.cell? ⟨w.heap.size + 1, 0, none⟩ = some (.int .i64 o.kind) := fun y => (y.cell lk2).trans (K2.cell 0)
    have oy1 : ∀ y : After W, y.w.cell? ⟨w.heap.size + 1, 1, none⟩ = some (.int .i64 o.obj) := fun y => (y.cell lk2).trans (K2.cell 1)
    have oy2 : ∀ y : After W, y.w.cell? ⟨w.heap.size + 1, 2, none⟩ = some (.int .i64 o.a) := fun y => (y.cell lk2).trans (K2.cell 2)
    have oy3 : ∀ y : After W, y.w.cell? ⟨w.heap.size + 1, 3, none⟩ = some (.int .i64 o.b) := fun y => (y.cell lk2).trans (K2.cell 3)
    go_enter Try.func11, Try.ntmps11
    go_wp2_with fail
    rw [← HW.out]
    refine wp_region_after (by kernel_rfl) (by kernel_rfl) ?_
    repeat (go_big_quiet_step (first
      | (go_at_call 14; exact calls_after_same ((of_kind _ _).mono fun _ _ ⟨h1, h2⟩ => ⟨by rw [h1, HOK.out], h2.symm⟩))
      | (go_at_call 10; exact calls_after (HRT.out _))))
    refine wpQuiet_nil ?_
    rintro _ ⟨y, rfl⟩
    obtain ⟨X, hX⟩ : ∃ X, X = y.w := ⟨_, rfl⟩
    have hb := y.bel
    rw [← hX] at hb
    rw [← hX]
    have K1x := K1.later hb
    have K2x := K2.later hb
    have K3x := K3.later hb
    have HKX := Lib.hid (HK.out.later hb)
    have HVX := Lib.hid (HV.out.later hb)
    have HBX := Lib.hid (HB.out.trans (hb.mono HB.out.size))
    clear K1 K2 K3 hX hb y cy0 cy1 cy2 oy0 oy1 oy2 oy3 lk1 lk2
    have K1 := K1x
    have K2 := K2x
    have K3 := K3x
    clear K1x K2x K3x
    have c0 : X.cell? ⟨w.heap.size, 0, none⟩ = some (.int .i64 c.kind) := K1.cell 0
    have c1 : X.cell? ⟨w.heap.size, 1, none⟩ = some (.slice kp kn kc) := K1.cell 1
    have c2 : X.cell? ⟨w.heap.size, 2, none⟩ = some (.slice vp vn vc) := K1.cell 2
    have o0 : X.cell? ⟨w.heap.size + 1, 0, none⟩ = some (.int .i64 o.kind) := K2.cell 0
    have o1 : X.cell? ⟨w.heap.size + 1, 1, none⟩ = some (.int .i64 o.obj) := K2.cell 1
    have o2 : X.cell? ⟨w.heap.size + 1, 2, none⟩ = some (.int .i64 o.a) := K2.cell 2
    have o3 : X.cell? ⟨w.heap.size + 1, 3, none⟩ = some (.int .i64 o.b) := K2.cell 3
    have z0 : X.cell? ⟨w.heap.size + 1 + 1, 0, none⟩ = some (.int .i64 0) := K3.cell 0
    have f0 := K3.free 0
    have z1 : X.cell? ⟨w.heap.size + 1 + 1, 1, none⟩ = some (.slice none 0 0) := K3.cell 1
    have f1 := K3.free 1
    have z2 : X.cell? ⟨w.heap.size + 1 + 1, 2, none⟩ = some (.slice none 0 0) := K3.cell 2
    have f2 := K3.free 2
    go_wp2_with fail
    clear c0 c1 c2 o0 o1 o2 o3 z0 z1 z2 f0 f1 f2 d1 d2
    obtain ⟨WE, hWE⟩ : ∃ WE, WE = (((X.setCell ⟨w.heap.size + 1 + 1, 0, none⟩ (.int .i64 c.kind)).setCell ⟨w.heap.size + 1 + 1, 1, none⟩ (.slice kp kn kc)).setCell ⟨w.heap.size + 1 + 1, 2, none⟩ (.slice vp vn vc)) := ⟨_, rfl⟩
    have KE : Blk WE (w.heap.size + 1 + 1) 24 #[.int .i64 c.kind, .slice kp kn kc, .slice vp vn vc] := by rw [hWE]; exact K3.put3 _ _ _
    have hbE : Below w.heap.size w WE := by rw [hWE]; exact below_set3 HBX.out hs3 _ _ _
    have N1 := Lib.hid (show Nums WE kp kc c.keys from by rw [hWE]; exact HKX.out.far3 _ _ _ _ (fun h b off e => by have := HKL.out h b off e; omega))
    have N2 := Lib.hid (show Nums WE vp vc c.vals from by rw [hWE]; exact HVX.out.far3 _ _ _ _ (fun h b off e => by have := HVL.out h b off e; omega))
    have e0 : WE.cell? ⟨w.heap.size + 1 + 1, 0, none⟩ = some (.int .i64 c.kind) := KE.cell 0
    have e1 : WE.cell? ⟨w.heap.size + 1 + 1, 1, none⟩ = some (.slice kp kn kc) := KE.cell 1
    have e2 : WE.cell? ⟨w.heap.size + 1 + 1, 2, none⟩ = some (.slice vp vn vc) := KE.cell 2
    have HBE := Lib.hid hbE
    rw [← hWE]
    clear hWE KE hbE
    exact bodyPost_ret (v := .tuple #[.agg #[.int .i64 c.kind, .slice kp kn kc, .slice vp vn vc], .int .i64 0, .bool false]) (by simp [results, Try.results11, go_sem, e0, e1, e2]) rfl (DoPost.mk (c.kind) kn vn (0) false kp kc vp vc (by rw [HR.out]) (by rw [HR.out]; exact H1.out) (by rw [HR.out]; exact H2.out) (by rw [HR.out]) (by rw [HR.out]) rfl (by rw [HR.out]; exact N1.out) (by rw [HR.out]; exact N2.out) HBE.out (.inl ⟨rfl, by rw [HR.out]⟩) (.inl ⟨rfl, by rw [HR.out]⟩))
  have hkk := right_kinds hrt
  rw [← hne, ← hko] at hkk
  have hcs := kind_cases hkk
  rw [if_neg (by rintro (h | h); exact h (by rw [hko]; exact hne); rw [hrt] at h; cases h)] at hr
  have HRM := Lib.hid (right_map hrt)
  have hck : c.kind = kindOf o.kind := by rw [hko]; exact hne.symm
  have HCK := Lib.hid hck
  clear hkk hck hne hrt hko
  obtain ⟨ok, oo, oa, ob⟩ := o
  dsimp only at hr hcs K2
  obtain ⟨r0, hr0⟩ : ∃ x, r.1.kind = x := ⟨_, rfl⟩
  obtain ⟨nk, hnk⟩ : ∃ x, r.1.keys.length = x := ⟨_, rfl⟩
  obtain ⟨nv, hnv⟩ : ∃ x, r.1.vals.length = x := ⟨_, rfl⟩
  obtain ⟨rv, hrv⟩ : ∃ x, r.2.1 = x := ⟨_, rfl⟩
  obtain ⟨rb, hrb⟩ : ∃ x, r.2.2 = x := ⟨_, rfl⟩
  have R0 := Lib.hid hr0
  have NK := Lib.hid hnk
  have NV := Lib.hid hnv
  have RV := Lib.hid hrv
  have RB := Lib.hid hrb
  clear hr0 hnk hnv hrv hrb
  rcases hcs with rfl | rfl | rfl | rfl | rfl | rfl | rfl
  · have hrr : getC c ⟨1, oo, oa, ob⟩ = r := by rw [← hr]; rfl
    have HCTP := Lib.hid fun wx (hx : Below W.heap.size W wx) => get_any c ⟨1, oo, oa, ob⟩ kn vn H1.out H2.out kp vp kc vc wx (HK.out.later hx) (HV.out.later hx) l1 l2 (HRM.out (by rw [HCK.out]; rfl)).1 (by have := (HRM.out (by rw [HCK.out]; rfl)).2; rw [H1.out, H2.out] at this; exact this)
    rw [hrr] at HCTP
    clear hr hrr
    have lk1 := K1.lt
    have lk2 := K2.lt
    have cy0 : ∀ y : After W, y.w.cell? ⟨w.heap.size, 0, none⟩ = some (.int .i64 c.kind) := fun y => (y.cell lk1).trans (K1.cell 0)
    have cy1 : ∀ y : After W, y.w.cell? ⟨w.heap.size, 1, none⟩ = some (.slice kp kn kc) := fun y => (y.cell lk1).trans (K1.cell 1)
    have cy2 : ∀ y : After W, y.w.cell? ⟨w.heap.size, 2, none⟩ = some (.slice vp vn vc) := fun y => (y.cell lk1).trans (K1.cell 2)
    have oy0 : ∀ y : After W, y.w.cell? ⟨w.heap.size + 1, 0, none⟩ = some (.int .i64 1) := fun y => (y.cell lk2).trans (K2.cell 0)
    have oy1 : ∀ y : After W, y.w.cell? ⟨w.heap.size + 1, 1, none⟩ = some (.int .i64 oo) := fun y => (y.cell lk2).trans (K2.cell 1)
    have oy2 : ∀ y : After W, y.w.cell? ⟨w.heap.size + 1, 2, none⟩ = some (.int .i64 oa) := fun y => (y.cell lk2).trans (K2.cell 2)
    have oy3 : ∀ y : After W, y.w.cell? ⟨w.heap.size + 1, 3, none⟩ = some (.int .i64 ob) := fun y => (y.cell lk2).trans (K2.cell 3)
    go_enter Try.func11, Try.ntmps11
    go_wp2_with fail
    rw [← HW.out]
    refine wp_region_after (by kernel_rfl) (by kernel_rfl) ?_
    repeat (go_big_quiet_step (first
      | (go_at_call 14; exact calls_after_same ((of_kind _ _).mono fun _ _ ⟨h1, h2⟩ => ⟨by rw [h1, HOK.out], h2.symm⟩))
      | (go_at_call 10; exact calls_after (HRT.out _))))
    refine wpQuiet_nil ?_
    rintro _ ⟨y, rfl⟩
    obtain ⟨X, hX⟩ : ∃ X, X = y.w := ⟨_, rfl⟩
    have hb := y.bel
    rw [← hX] at hb
    rw [← hX]
    have HBWX := Lib.hid hb
    have K1x := K1.later hb
    have K2x := K2.later hb
    have K3x := K3.later hb
    have HKX := Lib.hid (HK.out.later hb)
    have HVX := Lib.hid (HV.out.later hb)
    have HBX := Lib.hid (HB.out.trans (hb.mono HB.out.size))
    clear K1 K2 K3 hX hb y cy0 cy1 cy2 oy0 oy1 oy2 oy3 lk1 lk2
    have K1 := K1x
    have K2 := K2x
    have K3 := K3x
    clear K1x K2x K3x
    have HCTQ := Lib.hid fun wx (hx : Below X.heap.size X wx) => HCTP.out wx (HBWX.out.trans (hx.mono HBWX.out.size))
    have c0 : X.cell? ⟨w.heap.size, 0, none⟩ = some (.int .i64 c.kind) := K1.cell 0
    have c1 : X.cell? ⟨w.heap.size, 1, none⟩ = some (.slice kp kn kc) := K1.cell 1
    have c2 : X.cell? ⟨w.heap.size, 2, none⟩ = some (.slice vp vn vc) := K1.cell 2
    have o0 : X.cell? ⟨w.heap.size + 1, 0, none⟩ = some (.int .i64 1) := K2.cell 0
    have o1 : X.cell? ⟨w.heap.size + 1, 1, none⟩ = some (.int .i64 oo) := K2.cell 1
    have o2 : X.cell? ⟨w.heap.size + 1, 2, none⟩ = some (.int .i64 oa) := K2.cell 2
    have o3 : X.cell? ⟨w.heap.size + 1, 3, none⟩ = some (.int .i64 ob) := K2.cell 3
    have lk1 := K1.lt
    have lk2 := K2.lt
    have lk3 := K3.lt
    have hix := idx1
    have HCT := Lib.hid fun wx (hx : Below X.heap.size X wx) => (show Calls Try.prog 21 #[.agg #[.int .i64 c.kind, .slice kp kn kc, .slice vp vn vc], .agg #[.int .i64 1, .int .i64 oo, .int .i64 oa, .int .i64 ob]] wx (DoPost wx c kp vp r) from HCTQ.out wx hx)
    go_wp2_with fail
    go_region_held3 (fun w' => w'.cell? ⟨w.heap.size, 0, none⟩ = some (.int .i64 c.kind) ∧ w'.cell? ⟨w.heap.size, 1, none⟩ = some (.slice kp kn kc) ∧ w'.cell? ⟨w.heap.size, 2, none⟩ = some (.slice vp vn vc) ∧
        w'.cell? ⟨w.heap.size + 1, 0, none⟩ = some (.int .i64 1) ∧ w'.cell? ⟨w.heap.size + 1, 1, none⟩ = some (.int .i64 oo) ∧ w'.cell? ⟨w.heap.size + 1, 2, none⟩ = some (.int .i64 oa) ∧ w'.cell? ⟨w.heap.size + 1, 3, none⟩ = some (.int .i64 ob))
      (first
        | exact ⟨c0, c1, c2, o0, o1, o2, o3⟩
        | exact ⟨k0, k1, k2, j0, j1, j2, j3⟩
        | exact ⟨l0, l1', l2', m0, m1, m2, m3⟩
        | exact ⟨s0 _ _ _, s1 _ _ _, s2 _ _ _, t0 _ _ _, t1 _ _ _, t2 _ _ _, t3 _ _ _⟩)
      (first
        | (go_at_call 20
           refine (ops_any _).mono ?_
           rintro e w3 ⟨rfl, hb3⟩
           have hb4 : Below X.heap.size X w3 := (Below.refl _ _).drew.trans hb3
           have k0 := (hb4.cell (p := ⟨w.heap.size, 0, none⟩) lk1).trans c0
           have k1 := (hb4.cell (p := ⟨w.heap.size, 1, none⟩) lk1).trans c1
           have k2 := (hb4.cell (p := ⟨w.heap.size, 2, none⟩) lk1).trans c2
           have j0 := (hb4.cell (p := ⟨w.heap.size + 1, 0, none⟩) lk2).trans o0
           have j1 := (hb4.cell (p := ⟨w.heap.size + 1, 1, none⟩) lk2).trans o1
           have j2 := (hb4.cell (p := ⟨w.heap.size + 1, 2, none⟩) lk2).trans o2
           have j3 := (hb4.cell (p := ⟨w.heap.size + 1, 3, none⟩) lk2).trans o3)
        | (go_at_call 21
           refine (HCT.out _ hb4).mono ?_
           rintro e w5 hp5
           obtain ⟨kp2, kc2, vp2, vc2, rfl, hqk, hqv, hb5, hpk, hpv⟩ := hp5.at r0 nk nv rv rb R0.out NK.out NV.out RV.out RB.out
           have hb6 : Below X.heap.size X w5 := hb4.trans (hb5.mono hb4.size)
           have l0 := (hb6.cell (p := ⟨w.heap.size, 0, none⟩) lk1).trans c0
           have l1' := (hb6.cell (p := ⟨w.heap.size, 1, none⟩) lk1).trans c1
           have l2' := (hb6.cell (p := ⟨w.heap.size, 2, none⟩) lk1).trans c2
           have m0 := (hb6.cell (p := ⟨w.heap.size + 1, 0, none⟩) lk2).trans o0
           have m1 := (hb6.cell (p := ⟨w.heap.size + 1, 1, none⟩) lk2).trans o1
           have m2 := (hb6.cell (p := ⟨w.heap.size + 1, 2, none⟩) lk2).trans o2
           have m3 := (hb6.cell (p := ⟨w.heap.size + 1, 3, none⟩) lk2).trans o3
           have s0 : ∀ v0 v1 v2, (((w5.setCell ⟨w.heap.size + 1 + 1, 0, none⟩ v0).setCell ⟨w.heap.size + 1 + 1, 1, none⟩ v1).setCell ⟨w.heap.size + 1 + 1, 2, none⟩ v2).cell? ⟨w.heap.size, 0, none⟩ = some (.int .i64 c.kind) := fun _ _ _ => get_far (get_far (get_far l0 (by intro e; injection e with e; omega)) (by intro e; injection e with e; omega)) (by intro e; injection e with e; omega)
           have s1 : ∀ v0 v1 v2, (((w5.setCell ⟨w.heap.size + 1 + 1, 0, none⟩ v0).setCell ⟨w.heap.size + 1 + 1, 1, none⟩ v1).setCell ⟨w.heap.size + 1 + 1, 2, none⟩ v2).cell? ⟨w.heap.size, 1, none⟩ = some (.slice kp kn kc) := fun _ _ _ => get_far (get_far (get_far l1' (by intro e; injection e with e; omega)) (by intro e; injection e with e; omega)) (by intro e; injection e with e; omega)
           have s2 : ∀ v0 v1 v2, (((w5.setCell ⟨w.heap.size + 1 + 1, 0, none⟩ v0).setCell ⟨w.heap.size + 1 + 1, 1, none⟩ v1).setCell ⟨w.heap.size + 1 + 1, 2, none⟩ v2).cell? ⟨w.heap.size, 2, none⟩ = some (.slice vp vn vc) := fun _ _ _ => get_far (get_far (get_far l2' (by intro e; injection e with e; omega)) (by intro e; injection e with e; omega)) (by intro e; injection e with e; omega)
           have t0 : ∀ v0 v1 v2, (((w5.setCell ⟨w.heap.size + 1 + 1, 0, none⟩ v0).setCell ⟨w.heap.size + 1 + 1, 1, none⟩ v1).setCell ⟨w.heap.size + 1 + 1, 2, none⟩ v2).cell? ⟨w.heap.size + 1, 0, none⟩ = some (.int .i64 1) := fun _ _ _ => get_far (get_far (get_far m0 (by intro e; injection e with e; omega)) (by intro e; injection e with e; omega)) (by intro e; injection e with e; omega)
           have t1 : ∀ v0 v1 v2, (((w5.setCell ⟨w.heap.size + 1 + 1, 0, none⟩ v0).setCell ⟨w.heap.size + 1 + 1, 1, none⟩ v1).setCell ⟨w.heap.size + 1 + 1, 2, none⟩ v2).cell? ⟨w.heap.size + 1, 1, none⟩ = some (.int .i64 oo) := fun _ _ _ => get_far (get_far (get_far m1 (by intro e; injection e with e; omega)) (by intro e; injection e with e; omega)) (by intro e; injection e with e; omega)
           have t2 : ∀ v0 v1 v2, (((w5.setCell ⟨w.heap.size + 1 + 1, 0, none⟩ v0).setCell ⟨w.heap.size + 1 + 1, 1, none⟩ v1).setCell ⟨w.heap.size + 1 + 1, 2, none⟩ v2).cell? ⟨w.heap.size + 1, 2, none⟩ = some (.int .i64 oa) := fun _ _ _ => get_far (get_far (get_far m2 (by intro e; injection e with e; omega)) (by intro e; injection e with e; omega)) (by intro e; injection e with e; omega)
           have t3 : ∀ v0 v1 v2, (((w5.setCell ⟨w.heap.size + 1 + 1, 0, none⟩ v0).setCell ⟨w.heap.size + 1 + 1, 1, none⟩ v1).setCell ⟨w.heap.size + 1 + 1, 2, none⟩ v2).cell? ⟨w.heap.size + 1, 3, none⟩ = some (.int .i64 ob) := fun _ _ _ => get_far (get_far (get_far m3 (by intro e; injection e with e; omega)) (by intro e; injection e with e; omega)) (by intro e; injection e with e; omega)
           have K4 := K3.later hb6
           have z0 : w5.cell? ⟨w.heap.size + 1 + 1, 0, none⟩ = some (.int .i64 0) := K4.cell 0
           have f0 := K4.free 0
           have z1 : w5.cell? ⟨w.heap.size + 1 + 1, 1, none⟩ = some (.slice none 0 0) := K4.cell 1
           have f1 := K4.free 1
           have z2 : w5.cell? ⟨w.heap.size + 1 + 1, 2, none⟩ = some (.slice none 0 0) := K4.cell 2
           have f2 := K4.free 2
           have HB5 := Lib.hid (HBX.out.trans (hb6.mono HBX.out.size))
           have h34 : w.heap.size + 1 + 1 < w3.heap.size := Nat.lt_of_lt_of_le lk3 hb4.size
           have HQK := Lib.hid hqk
           have HQV := Lib.hid hqv
           have HPK := Lib.hid hpk
           have HPV := Lib.hid hpv
           clear hb5 hb6 hqk hqv hpk hpv))
    go_wp2_with fail
    clear l0 l1' l2' m0 m1 m2 m3 s0 s1 s2 t0 t1 t2 t3 z0 z1 z2 f0 f1 f2 c0 c1 c2 o0 o1 o2 o3 k0 k1 k2 j0 j1 j2 j3
    obtain ⟨WE, hWE⟩ : ∃ WE, WE = (((w5.setCell ⟨w.heap.size + 1 + 1, 0, none⟩ (.int .i64 r0)).setCell ⟨w.heap.size + 1 + 1, 1, none⟩ (.slice kp2 nk kc2)).setCell ⟨w.heap.size + 1 + 1, 2, none⟩ (.slice vp2 nv vc2)) := ⟨_, rfl⟩
    have KE : Blk WE (w.heap.size + 1 + 1) 24 #[.int .i64 r0, .slice kp2 nk kc2, .slice vp2 nv vc2] := by rw [hWE]; exact K4.put3 _ _ _
    have hbE : Below w.heap.size w WE := by rw [hWE]; exact below_set3 HB5.out hs3 _ _ _
    have N1 := Lib.hid (show Nums WE kp2 kc2 r.1.keys from by rw [hWE]; exact HQK.out.far3 _ _ _ _ (fun h b off e => by
      rcases HPK.out with ⟨h1, h2⟩ | h1
      · rw [h2] at h; have := HKL.out h b off (h1 ▸ e); omega
      · have := h1 b off e; omega))
    have N2 := Lib.hid (show Nums WE vp2 vc2 r.1.vals from by rw [hWE]; exact HQV.out.far3 _ _ _ _ (fun h b off e => by
      rcases HPV.out with ⟨h1, h2⟩ | h1
      · rw [h2] at h; have := HVL.out h b off (h1 ▸ e); omega
      · have := h1 b off e; omega))
    have e0 : WE.cell? ⟨w.heap.size + 1 + 1, 0, none⟩ = some (.int .i64 r0) := KE.cell 0
    have e1 : WE.cell? ⟨w.heap.size + 1 + 1, 1, none⟩ = some (.slice kp2 nk kc2) := KE.cell 1
    have e2 : WE.cell? ⟨w.heap.size + 1 + 1, 2, none⟩ = some (.slice vp2 nv vc2) := KE.cell 2
    have HBE := Lib.hid hbE
    rw [← hWE]
    clear hWE KE hbE
    exact bodyPost_ret (v := .tuple #[.agg #[.int .i64 r0, .slice kp2 nk kc2, .slice vp2 nv vc2], .int .i64 rv, .bool rb]) (by simp [results, Try.results11, go_sem, e0, e1, e2]) rfl (DoPost.mk r0 nk nv rv rb kp2 kc2 vp2 vc2 R0.out NK.out NV.out RV.out RB.out rfl N1.out N2.out HBE.out
      (HPK.out.imp id fun h b off e => by have := h b off e; omega) (HPV.out.imp id fun h b off e => by have := h b off e; omega))
  · have hrr : putC c ⟨2, oo, oa, ob⟩ = r := by rw [← hr]; rfl
    have HCTP := Lib.hid fun wx (hx : Below W.heap.size W wx) => put_any c ⟨2, oo, oa, ob⟩ kn vn H1.out H2.out kp vp kc vc wx (HK.out.later hx) (HV.out.later hx) l1 l2 (HRM.out (by rw [HCK.out]; rfl)).1 (by have := (HRM.out (by rw [HCK.out]; rfl)).2; rw [H1.out, H2.out] at this; exact this)
    rw [hrr] at HCTP
    clear hr hrr
    have lk1 := K1.lt
    have lk2 := K2.lt
    have cy0 : ∀ y : After W, y.w.cell? ⟨w.heap.size, 0, none⟩ = some (.int .i64 c.kind) := fun y => (y.cell lk1).trans (K1.cell 0)
    have cy1 : ∀ y : After W, y.w.cell? ⟨w.heap.size, 1, none⟩ = some (.slice kp kn kc) := fun y => (y.cell lk1).trans (K1.cell 1)
    have cy2 : ∀ y : After W, y.w.cell? ⟨w.heap.size, 2, none⟩ = some (.slice vp vn vc) := fun y => (y.cell lk1).trans (K1.cell 2)
    have oy0 : ∀ y : After W, y.w.cell? ⟨w.heap.size + 1, 0, none⟩ = some (.int .i64 2) := fun y => (y.cell lk2).trans (K2.cell 0)
    have oy1 : ∀ y : After W, y.w.cell? ⟨w.heap.size + 1, 1, none⟩ = some (.int .i64 oo) := fun y => (y.cell lk2).trans (K2.cell 1)
    have oy2 : ∀ y : After W, y.w.cell? ⟨w.heap.size + 1, 2, none⟩ = some (.int .i64 oa) := fun y => (y.cell lk2).trans (K2.cell 2)
    have oy3 : ∀ y : After W, y.w.cell? ⟨w.heap.size + 1, 3, none⟩ = some (.int .i64 ob) := fun y => (y.cell lk2).trans (K2.cell 3)
    go_enter Try.func11, Try.ntmps11
    go_wp2_with fail
    rw [← HW.out]
    refine wp_region_after (by kernel_rfl) (by kernel_rfl) ?_
    repeat (go_big_quiet_step (first
      | (go_at_call 14; exact calls_after_same ((of_kind _ _).mono fun _ _ ⟨h1, h2⟩ => ⟨by rw [h1, HOK.out], h2.symm⟩))
      | (go_at_call 10; exact calls_after (HRT.out _))))
    refine wpQuiet_nil ?_
    rintro _ ⟨y, rfl⟩
    obtain ⟨X, hX⟩ : ∃ X, X = y.w := ⟨_, rfl⟩
    have hb := y.bel
    rw [← hX] at hb
    rw [← hX]
    have HBWX := Lib.hid hb
    have K1x := K1.later hb
    have K2x := K2.later hb
    have K3x := K3.later hb
    have HKX := Lib.hid (HK.out.later hb)
    have HVX := Lib.hid (HV.out.later hb)
    have HBX := Lib.hid (HB.out.trans (hb.mono HB.out.size))
    clear K1 K2 K3 hX hb y cy0 cy1 cy2 oy0 oy1 oy2 oy3 lk1 lk2
    have K1 := K1x
    have K2 := K2x
    have K3 := K3x
    clear K1x K2x K3x
    have HCTQ := Lib.hid fun wx (hx : Below X.heap.size X wx) => HCTP.out wx (HBWX.out.trans (hx.mono HBWX.out.size))
    have c0 : X.cell? ⟨w.heap.size, 0, none⟩ = some (.int .i64 c.kind) := K1.cell 0
    have c1 : X.cell? ⟨w.heap.size, 1, none⟩ = some (.slice kp kn kc) := K1.cell 1
    have c2 : X.cell? ⟨w.heap.size, 2, none⟩ = some (.slice vp vn vc) := K1.cell 2
    have o0 : X.cell? ⟨w.heap.size + 1, 0, none⟩ = some (.int .i64 2) := K2.cell 0
    have o1 : X.cell? ⟨w.heap.size + 1, 1, none⟩ = some (.int .i64 oo) := K2.cell 1
    have o2 : X.cell? ⟨w.heap.size + 1, 2, none⟩ = some (.int .i64 oa) := K2.cell 2
    have o3 : X.cell? ⟨w.heap.size + 1, 3, none⟩ = some (.int .i64 ob) := K2.cell 3
    have lk1 := K1.lt
    have lk2 := K2.lt
    have lk3 := K3.lt
    have hix := idx2
    have HCT := Lib.hid fun wx (hx : Below X.heap.size X wx) => (show Calls Try.prog 22 #[.agg #[.int .i64 c.kind, .slice kp kn kc, .slice vp vn vc], .agg #[.int .i64 2, .int .i64 oo, .int .i64 oa, .int .i64 ob]] wx (DoPost wx c kp vp r) from HCTQ.out wx hx)
    go_wp2_with fail
    go_region_held3 (fun w' => w'.cell? ⟨w.heap.size, 0, none⟩ = some (.int .i64 c.kind) ∧ w'.cell? ⟨w.heap.size, 1, none⟩ = some (.slice kp kn kc) ∧ w'.cell? ⟨w.heap.size, 2, none⟩ = some (.slice vp vn vc) ∧
        w'.cell? ⟨w.heap.size + 1, 0, none⟩ = some (.int .i64 2) ∧ w'.cell? ⟨w.heap.size + 1, 1, none⟩ = some (.int .i64 oo) ∧ w'.cell? ⟨w.heap.size + 1, 2, none⟩ = some (.int .i64 oa) ∧ w'.cell? ⟨w.heap.size + 1, 3, none⟩ = some (.int .i64 ob))
      (first
        | exact ⟨c0, c1, c2, o0, o1, o2, o3⟩
        | exact ⟨k0, k1, k2, j0, j1, j2, j3⟩
        | exact ⟨l0, l1', l2', m0, m1, m2, m3⟩
        | exact ⟨s0 _ _ _, s1 _ _ _, s2 _ _ _, t0 _ _ _, t1 _ _ _, t2 _ _ _, t3 _ _ _⟩)
      (first
        | (go_at_call 20
           refine (ops_any _).mono ?_
           rintro e w3 ⟨rfl, hb3⟩
           have hb4 : Below X.heap.size X w3 := (Below.refl _ _).drew.trans hb3
           have k0 := (hb4.cell (p := ⟨w.heap.size, 0, none⟩) lk1).trans c0
           have k1 := (hb4.cell (p := ⟨w.heap.size, 1, none⟩) lk1).trans c1
           have k2 := (hb4.cell (p := ⟨w.heap.size, 2, none⟩) lk1).trans c2
           have j0 := (hb4.cell (p := ⟨w.heap.size + 1, 0, none⟩) lk2).trans o0
           have j1 := (hb4.cell (p := ⟨w.heap.size + 1, 1, none⟩) lk2).trans o1
           have j2 := (hb4.cell (p := ⟨w.heap.size + 1, 2, none⟩) lk2).trans o2
           have j3 := (hb4.cell (p := ⟨w.heap.size + 1, 3, none⟩) lk2).trans o3)
        | (go_at_call 22
           refine (HCT.out _ hb4).mono ?_
           rintro e w5 hp5
           obtain ⟨kp2, kc2, vp2, vc2, rfl, hqk, hqv, hb5, hpk, hpv⟩ := hp5.at r0 nk nv rv rb R0.out NK.out NV.out RV.out RB.out
           have hb6 : Below X.heap.size X w5 := hb4.trans (hb5.mono hb4.size)
           have l0 := (hb6.cell (p := ⟨w.heap.size, 0, none⟩) lk1).trans c0
           have l1' := (hb6.cell (p := ⟨w.heap.size, 1, none⟩) lk1).trans c1
           have l2' := (hb6.cell (p := ⟨w.heap.size, 2, none⟩) lk1).trans c2
           have m0 := (hb6.cell (p := ⟨w.heap.size + 1, 0, none⟩) lk2).trans o0
           have m1 := (hb6.cell (p := ⟨w.heap.size + 1, 1, none⟩) lk2).trans o1
           have m2 := (hb6.cell (p := ⟨w.heap.size + 1, 2, none⟩) lk2).trans o2
           have m3 := (hb6.cell (p := ⟨w.heap.size + 1, 3, none⟩) lk2).trans o3
           have s0 : ∀ v0 v1 v2, (((w5.setCell ⟨w.heap.size + 1 + 1, 0, none⟩ v0).setCell ⟨w.heap.size + 1 + 1, 1, none⟩ v1).setCell ⟨w.heap.size + 1 + 1, 2, none⟩ v2).cell? ⟨w.heap.size, 0, none⟩ = some (.int .i64 c.kind) := fun _ _ _ => get_far (get_far (get_far l0 (by intro e; injection e with e; omega)) (by intro e; injection e with e; omega)) (by intro e; injection e with e; omega)
           have s1 : ∀ v0 v1 v2, (((w5.setCell ⟨w.heap.size + 1 + 1, 0, none⟩ v0).setCell ⟨w.heap.size + 1 + 1, 1, none⟩ v1).setCell ⟨w.heap.size + 1 + 1, 2, none⟩ v2).cell? ⟨w.heap.size, 1, none⟩ = some (.slice kp kn kc) := fun _ _ _ => get_far (get_far (get_far l1' (by intro e; injection e with e; omega)) (by intro e; injection e with e; omega)) (by intro e; injection e with e; omega)
           have s2 : ∀ v0 v1 v2, (((w5.setCell ⟨w.heap.size + 1 + 1, 0, none⟩ v0).setCell ⟨w.heap.size + 1 + 1, 1, none⟩ v1).setCell ⟨w.heap.size + 1 + 1, 2, none⟩ v2).cell? ⟨w.heap.size, 2, none⟩ = some (.slice vp vn vc) := fun _ _ _ => get_far (get_far (get_far l2' (by intro e; injection e with e; omega)) (by intro e; injection e with e; omega)) (by intro e; injection e with e; omega)
           have t0 : ∀ v0 v1 v2, (((w5.setCell ⟨w.heap.size + 1 + 1, 0, none⟩ v0).setCell ⟨w.heap.size + 1 + 1, 1, none⟩ v1).setCell ⟨w.heap.size + 1 + 1, 2, none⟩ v2).cell? ⟨w.heap.size + 1, 0, none⟩ = some (.int .i64 2) := fun _ _ _ => get_far (get_far (get_far m0 (by intro e; injection e with e; omega)) (by intro e; injection e with e; omega)) (by intro e; injection e with e; omega)
           have t1 : ∀ v0 v1 v2, (((w5.setCell ⟨w.heap.size + 1 + 1, 0, none⟩ v0).setCell ⟨w.heap.size + 1 + 1, 1, none⟩ v1).setCell ⟨w.heap.size + 1 + 1, 2, none⟩ v2).cell? ⟨w.heap.size + 1, 1, none⟩ = some (.int .i64 oo) := fun _ _ _ => get_far (get_far (get_far m1 (by intro e; injection e with e; omega)) (by intro e; injection e with e; omega)) (by intro e; injection e with e; omega)
           have t2 : ∀ v0 v1 v2, (((w5.setCell ⟨w.heap.size + 1 + 1, 0, none⟩ v0).setCell ⟨w.heap.size + 1 + 1, 1, none⟩ v1).setCell ⟨w.heap.size + 1 + 1, 2, none⟩ v2).cell? ⟨w.heap.size + 1, 2, none⟩ = some (.int .i64 oa) := fun _ _ _ => get_far (get_far (get_far m2 (by intro e; injection e with e; omega)) (by intro e; injection e with e; omega)) (by intro e; injection e with e; omega)
           have t3 : ∀ v0 v1 v2, (((w5.setCell ⟨w.heap.size + 1 + 1, 0, none⟩ v0).setCell ⟨w.heap.size + 1 + 1, 1, none⟩ v1).setCell ⟨w.heap.size + 1 + 1, 2, none⟩ v2).cell? ⟨w.heap.size + 1, 3, none⟩ = some (.int .i64 ob) := fun _ _ _ => get_far (get_far (get_far m3 (by intro e; injection e with e; omega)) (by intro e; injection e with e; omega)) (by intro e; injection e with e; omega)
           have K4 := K3.later hb6
           have z0 : w5.cell? ⟨w.heap.size + 1 + 1, 0, none⟩ = some (.int .i64 0) := K4.cell 0
           have f0 := K4.free 0
           have z1 : w5.cell? ⟨w.heap.size + 1 + 1, 1, none⟩ = some (.slice none 0 0) := K4.cell 1
           have f1 := K4.free 1
           have z2 : w5.cell? ⟨w.heap.size + 1 + 1, 2, none⟩ = some (.slice none 0 0) := K4.cell 2
           have f2 := K4.free 2
           have HB5 := Lib.hid (HBX.out.trans (hb6.mono HBX.out.size))
           have h34 : w.heap.size + 1 + 1 < w3.heap.size := Nat.lt_of_lt_of_le lk3 hb4.size
           have HQK := Lib.hid hqk
           have HQV := Lib.hid hqv
           have HPK := Lib.hid hpk
           have HPV := Lib.hid hpv
           clear hb5 hb6 hqk hqv hpk hpv))
    go_wp2_with fail
    clear l0 l1' l2' m0 m1 m2 m3 s0 s1 s2 t0 t1 t2 t3 z0 z1 z2 f0 f1 f2 c0 c1 c2 o0 o1 o2 o3 k0 k1 k2 j0 j1 j2 j3
    obtain ⟨WE, hWE⟩ : ∃ WE, WE = (((w5.setCell ⟨w.heap.size + 1 + 1, 0, none⟩ (.int .i64 r0)).setCell ⟨w.heap.size + 1 + 1, 1, none⟩ (.slice kp2 nk kc2)).setCell ⟨w.heap.size + 1 + 1, 2, none⟩ (.slice vp2 nv vc2)) := ⟨_, rfl⟩
    have KE : Blk WE (w.heap.size + 1 + 1) 24 #[.int .i64 r0, .slice kp2 nk kc2, .slice vp2 nv vc2] := by rw [hWE]; exact K4.put3 _ _ _
    have hbE : Below w.heap.size w WE := by rw [hWE]; exact below_set3 HB5.out hs3 _ _ _
    have N1 := Lib.hid (show Nums WE kp2 kc2 r.1.keys from by rw [hWE]; exact HQK.out.far3 _ _ _ _ (fun h b off e => by
      rcases HPK.out with ⟨h1, h2⟩ | h1
      · rw [h2] at h; have := HKL.out h b off (h1 ▸ e); omega
      · have := h1 b off e; omega))
    have N2 := Lib.hid (show Nums WE vp2 vc2 r.1.vals from by rw [hWE]; exact HQV.out.far3 _ _ _ _ (fun h b off e => by
      rcases HPV.out with ⟨h1, h2⟩ | h1
      · rw [h2] at h; have := HVL.out h b off (h1 ▸ e); omega
      · have := h1 b off e; omega))
    have e0 : WE.cell? ⟨w.heap.size + 1 + 1, 0, none⟩ = some (.int .i64 r0) := KE.cell 0
    have e1 : WE.cell? ⟨w.heap.size + 1 + 1, 1, none⟩ = some (.slice kp2 nk kc2) := KE.cell 1
    have e2 : WE.cell? ⟨w.heap.size + 1 + 1, 2, none⟩ = some (.slice vp2 nv vc2) := KE.cell 2
    have HBE := Lib.hid hbE
    rw [← hWE]
    clear hWE KE hbE
    exact bodyPost_ret (v := .tuple #[.agg #[.int .i64 r0, .slice kp2 nk kc2, .slice vp2 nv vc2], .int .i64 rv, .bool rb]) (by simp [results, Try.results11, go_sem, e0, e1, e2]) rfl (DoPost.mk r0 nk nv rv rb kp2 kc2 vp2 vc2 R0.out NK.out NV.out RV.out RB.out rfl N1.out N2.out HBE.out
      (HPK.out.imp id fun h b off e => by have := h b off e; omega) (HPV.out.imp id fun h b off e => by have := h b off e; omega))
  · have hrr : delC c ⟨3, oo, oa, ob⟩ = r := by rw [← hr]; rfl
    have HCTP := Lib.hid fun wx (hx : Below W.heap.size W wx) => del_any c ⟨3, oo, oa, ob⟩ kn vn H1.out H2.out kp vp kc vc wx (HK.out.later hx) (HV.out.later hx) l1 l2 (HRM.out (by rw [HCK.out]; rfl)).1 (by have := (HRM.out (by rw [HCK.out]; rfl)).2; rw [H1.out, H2.out] at this; exact this)
    rw [hrr] at HCTP
    clear hr hrr
    have lk1 := K1.lt
    have lk2 := K2.lt
    have cy0 : ∀ y : After W, y.w.cell? ⟨w.heap.size, 0, none⟩ = some (.int .i64 c.kind) := fun y => (y.cell lk1).trans (K1.cell 0)
    have cy1 : ∀ y : After W, y.w.cell? ⟨w.heap.size, 1, none⟩ = some (.slice kp kn kc) := fun y => (y.cell lk1).trans (K1.cell 1)
    have cy2 : ∀ y : After W, y.w.cell? ⟨w.heap.size, 2, none⟩ = some (.slice vp vn vc) := fun y => (y.cell lk1).trans (K1.cell 2)
    have oy0 : ∀ y : After W, y.w.cell? ⟨w.heap.size + 1, 0, none⟩ = some (.int .i64 3) := fun y => (y.cell lk2).trans (K2.cell 0)
    have oy1 : ∀ y : After W, y.w.cell? ⟨w.heap.size + 1, 1, none⟩ = some (.int .i64 oo) := fun y => (y.cell lk2).trans (K2.cell 1)
    have oy2 : ∀ y : After W, y.w.cell? ⟨w.heap.size + 1, 2, none⟩ = some (.int .i64 oa) := fun y => (y.cell lk2).trans (K2.cell 2)
    have oy3 : ∀ y : After W, y.w.cell? ⟨w.heap.size + 1, 3, none⟩ = some (.int .i64 ob) := fun y => (y.cell lk2).trans (K2.cell 3)
    go_enter Try.func11, Try.ntmps11
    go_wp2_with fail
    rw [← HW.out]
    refine wp_region_after (by kernel_rfl) (by kernel_rfl) ?_
    repeat (go_big_quiet_step (first
      | (go_at_call 14; exact calls_after_same ((of_kind _ _).mono fun _ _ ⟨h1, h2⟩ => ⟨by rw [h1, HOK.out], h2.symm⟩))
      | (go_at_call 10; exact calls_after (HRT.out _))))
    refine wpQuiet_nil ?_
    rintro _ ⟨y, rfl⟩
    obtain ⟨X, hX⟩ : ∃ X, X = y.w := ⟨_, rfl⟩
    have hb := y.bel
    rw [← hX] at hb
    rw [← hX]
    have HBWX := Lib.hid hb
    have K1x := K1.later hb
    have K2x := K2.later hb
    have K3x := K3.later hb
    have HKX := Lib.hid (HK.out.later hb)
    have HVX := Lib.hid (HV.out.later hb)
    have HBX := Lib.hid (HB.out.trans (hb.mono HB.out.size))
    clear K1 K2 K3 hX hb y cy0 cy1 cy2 oy0 oy1 oy2 oy3 lk1 lk2
    have K1 := K1x
    have K2 := K2x
    have K3 := K3x
    clear K1x K2x K3x
    have HCTQ := Lib.hid fun wx (hx : Below X.heap.size X wx) => HCTP.out wx (HBWX.out.trans (hx.mono HBWX.out.size))
    have c0 : X.cell? ⟨w.heap.size, 0, none⟩ = some (.int .i64 c.kind) := K1.cell 0
    have c1 : X.cell? ⟨w.heap.size, 1, none⟩ = some (.slice kp kn kc) := K1.cell 1
    have c2 : X.cell? ⟨w.heap.size, 2, none⟩ = some (.slice vp vn vc) := K1.cell 2
    have o0 : X.cell? ⟨w.heap.size + 1, 0, none⟩ = some (.int .i64 3) := K2.cell 0
    have o1 : X.cell? ⟨w.heap.size + 1, 1, none⟩ = some (.int .i64 oo) := K2.cell 1
    have o2 : X.cell? ⟨w.heap.size + 1, 2, none⟩ = some (.int .i64 oa) := K2.cell 2
    have o3 : X.cell? ⟨w.heap.size + 1, 3, none⟩ = some (.int .i64 ob) := K2.cell 3
    have lk1 := K1.lt
    have lk2 := K2.lt
    have lk3 := K3.lt
    have hix := idx3
    have HCT := Lib.hid fun wx (hx : Below X.heap.size X wx) => (show Calls Try.prog 23 #[.agg #[.int .i64 c.kind, .slice kp kn kc, .slice vp vn vc], .agg #[.int .i64 3, .int .i64 oo, .int .i64 oa, .int .i64 ob]] wx (DoPost wx c kp vp r) from HCTQ.out wx hx)
    go_wp2_with fail
    go_region_held3 (fun w' => w'.cell? ⟨w.heap.size, 0, none⟩ = some (.int .i64 c.kind) ∧ w'.cell? ⟨w.heap.size, 1, none⟩ = some (.slice kp kn kc) ∧ w'.cell? ⟨w.heap.size, 2, none⟩ = some (.slice vp vn vc) ∧
        w'.cell? ⟨w.heap.size + 1, 0, none⟩ = some (.int .i64 3) ∧ w'.cell? ⟨w.heap.size + 1, 1, none⟩ = some (.int .i64 oo) ∧ w'.cell? ⟨w.heap.size + 1, 2, none⟩ = some (.int .i64 oa) ∧ w'.cell? ⟨w.heap.size + 1, 3, none⟩ = some (.int .i64 ob))
      (first
        | exact ⟨c0, c1, c2, o0, o1, o2, o3⟩
        | exact ⟨k0, k1, k2, j0, j1, j2, j3⟩
        | exact ⟨l0, l1', l2', m0, m1, m2, m3⟩
        | exact ⟨s0 _ _ _, s1 _ _ _, s2 _ _ _, t0 _ _ _, t1 _ _ _, t2 _ _ _, t3 _ _ _⟩)
      (first
        | (go_at_call 20
           refine (ops_any _).mono ?_
           rintro e w3 ⟨rfl, hb3⟩
           have hb4 : Below X.heap.size X w3 := (Below.refl _ _).drew.trans hb3
           have k0 := (hb4.cell (p := ⟨w.heap.size, 0, none⟩) lk1).trans c0
           have k1 := (hb4.cell (p := ⟨w.heap.size, 1, none⟩) lk1).trans c1
           have k2 := (hb4.cell (p := ⟨w.heap.size, 2, none⟩) lk1).trans c2
           have j0 := (hb4.cell (p := ⟨w.heap.size + 1, 0, none⟩) lk2).trans o0
           have j1 := (hb4.cell (p := ⟨w.heap.size + 1, 1, none⟩) lk2).trans o1
           have j2 := (hb4.cell (p := ⟨w.heap.size + 1, 2, none⟩) lk2).trans o2
           have j3 := (hb4.cell (p := ⟨w.heap.size + 1, 3, none⟩) lk2).trans o3)
        | (go_at_call 23
           refine (HCT.out _ hb4).mono ?_
           rintro e w5 hp5
           obtain ⟨kp2, kc2, vp2, vc2, rfl, hqk, hqv, hb5, hpk, hpv⟩ := hp5.at r0 nk nv rv rb R0.out NK.out NV.out RV.out RB.out
           have hb6 : Below X.heap.size X w5 := hb4.trans (hb5.mono hb4.size)
           have l0 := (hb6.cell (p := ⟨w.heap.size, 0, none⟩) lk1).trans c0
           have l1' := (hb6.cell (p := ⟨w.heap.size, 1, none⟩) lk1).trans c1
           have l2' := (hb6.cell (p := ⟨w.heap.size, 2, none⟩) lk1).trans c2
           have m0 := (hb6.cell (p := ⟨w.heap.size + 1, 0, none⟩) lk2).trans o0
           have m1 := (hb6.cell (p := ⟨w.heap.size + 1, 1, none⟩) lk2).trans o1
           have m2 := (hb6.cell (p := ⟨w.heap.size + 1, 2, none⟩) lk2).trans o2
           have m3 := (hb6.cell (p := ⟨w.heap.size + 1, 3, none⟩) lk2).trans o3
           have s0 : ∀ v0 v1 v2, (((w5.setCell ⟨w.heap.size + 1 + 1, 0, none⟩ v0).setCell ⟨w.heap.size + 1 + 1, 1, none⟩ v1).setCell ⟨w.heap.size + 1 + 1, 2, none⟩ v2).cell? ⟨w.heap.size, 0, none⟩ = some (.int .i64 c.kind) := fun _ _ _ => get_far (get_far (get_far l0 (by intro e; injection e with e; omega)) (by intro e; injection e with e; omega)) (by intro e; injection e with e; omega)
           have s1 : ∀ v0 v1 v2, (((w5.setCell ⟨w.heap.size + 1 + 1, 0, none⟩ v0).setCell ⟨w.heap.size + 1 + 1, 1, none⟩ v1).setCell ⟨w.heap.size + 1 + 1, 2, none⟩ v2).cell? ⟨w.heap.size, 1, none⟩ = some (.slice kp kn kc) := fun _ _ _ => get_far (get_far (get_far l1' (by intro e; injection e with e; omega)) (by intro e; injection e with e; omega)) (by intro e; injection e with e; omega)
           have s2 : ∀ v0 v1 v2, (((w5.setCell ⟨w.heap.size + 1 + 1, 0, none⟩ v0).setCell ⟨w.heap.size + 1 + 1, 1, none⟩ v1).setCell ⟨w.heap.size + 1 + 1, 2, none⟩ v2).cell? ⟨w.heap.size, 2, none⟩ = some (.slice vp vn vc) := fun _ _ _ => get_far (get_far (get_far l2' (by intro e; injection e with e; omega)) (by intro e; injection e with e; omega)) (by intro e; injection e with e; omega)
           have t0 : ∀ v0 v1 v2, (((w5.setCell ⟨w.heap.size + 1 + 1, 0, none⟩ v0).setCell ⟨w.heap.size + 1 + 1, 1, none⟩ v1).setCell ⟨w.heap.size + 1 + 1, 2, none⟩ v2).cell? ⟨w.heap.size + 1, 0, none⟩ = some (.int .i64 3) := fun _ _ _ => get_far (get_far (get_far m0 (by intro e; injection e with e; omega)) (by intro e; injection e with e; omega)) (by intro e; injection e with e; omega)
           have t1 : ∀ v0 v1 v2, (((w5.setCell ⟨w.heap.size + 1 + 1, 0, none⟩ v0).setCell ⟨w.heap.size + 1 + 1, 1, none⟩ v1).setCell ⟨w.heap.size + 1 + 1, 2, none⟩ v2).cell? ⟨w.heap.size + 1, 1, none⟩ = some (.int .i64 oo) := fun _ _ _ => get_far (get_far (get_far m1 (by intro e; injection e with e; omega)) (by intro e; injection e with e; omega)) (by intro e; injection e with e; omega)
           have t2 : ∀ v0 v1 v2, (((w5.setCell ⟨w.heap.size + 1 + 1, 0, none⟩ v0).setCell ⟨w.heap.size + 1 + 1, 1, none⟩ v1).setCell ⟨w.heap.size + 1 + 1, 2, none⟩ v2).cell? ⟨w.heap.size + 1, 2, none⟩ = some (.int .i64 oa) := fun _ _ _ => get_far (get_far (get_far m2 (by intro e; injection e with e; omega)) (by intro e; injection e with e; omega)) (by intro e; injection e with e; omega)
           have t3 : ∀ v0 v1 v2, (((w5.setCell ⟨w.heap.size + 1 + 1, 0, none⟩ v0).setCell ⟨w.heap.size + 1 + 1, 1, none⟩ v1).setCell ⟨w.heap.size + 1 + 1, 2, none⟩ v2).cell? ⟨w.heap.size + 1, 3, none⟩ = some (.int .i64 ob) := fun _ _ _ => get_far (get_far (get_far m3 (by intro e; injection e with e; omega)) (by intro e; injection e with e; omega)) (by intro e; injection e with e; omega)
           have K4 := K3.later hb6
           have z0 : w5.cell? ⟨w.heap.size + 1 + 1, 0, none⟩ = some (.int .i64 0) := K4.cell 0
           have f0 := K4.free 0
           have z1 : w5.cell? ⟨w.heap.size + 1 + 1, 1, none⟩ = some (.slice none 0 0) := K4.cell 1
           have f1 := K4.free 1
           have z2 : w5.cell? ⟨w.heap.size + 1 + 1, 2, none⟩ = some (.slice none 0 0) := K4.cell 2
           have f2 := K4.free 2
           have HB5 := Lib.hid (HBX.out.trans (hb6.mono HBX.out.size))
           have h34 : w.heap.size + 1 + 1 < w3.heap.size := Nat.lt_of_lt_of_le lk3 hb4.size
           have HQK := Lib.hid hqk
           have HQV := Lib.hid hqv
           have HPK := Lib.hid hpk
           have HPV := Lib.hid hpv
           clear hb5 hb6 hqk hqv hpk hpv))
    go_wp2_with fail
    clear l0 l1' l2' m0 m1 m2 m3 s0 s1 s2 t0 t1 t2 t3 z0 z1 z2 f0 f1 f2 c0 c1 c2 o0 o1 o2 o3 k0 k1 k2 j0 j1 j2 j3
    obtain ⟨WE, hWE⟩ : ∃ WE, WE = (((w5.setCell ⟨w.heap.size + 1 + 1, 0, none⟩ (.int .i64 r0)).setCell ⟨w.heap.size + 1 + 1, 1, none⟩ (.slice kp2 nk kc2)).setCell ⟨w.heap.size + 1 + 1, 2, none⟩ (.slice vp2 nv vc2)) := ⟨_, rfl⟩
    have KE : Blk WE (w.heap.size + 1 + 1) 24 #[.int .i64 r0, .slice kp2 nk kc2, .slice vp2 nv vc2] := by rw [hWE]; exact K4.put3 _ _ _
    have hbE : Below w.heap.size w WE := by rw [hWE]; exact below_set3 HB5.out hs3 _ _ _
    have N1 := Lib.hid (show Nums WE kp2 kc2 r.1.keys from by rw [hWE]; exact HQK.out.far3 _ _ _ _ (fun h b off e => by
      rcases HPK.out with ⟨h1, h2⟩ | h1
      · rw [h2] at h; have := HKL.out h b off (h1 ▸ e); omega
      · have := h1 b off e; omega))
    have N2 := Lib.hid (show Nums WE vp2 vc2 r.1.vals from by rw [hWE]; exact HQV.out.far3 _ _ _ _ (fun h b off e => by
      rcases HPV.out with ⟨h1, h2⟩ | h1
      · rw [h2] at h; have := HVL.out h b off (h1 ▸ e); omega
      · have := h1 b off e; omega))
    have e0 : WE.cell? ⟨w.heap.size + 1 + 1, 0, none⟩ = some (.int .i64 r0) := KE.cell 0
    have e1 : WE.cell? ⟨w.heap.size + 1 + 1, 1, none⟩ = some (.slice kp2 nk kc2) := KE.cell 1
    have e2 : WE.cell? ⟨w.heap.size + 1 + 1, 2, none⟩ = some (.slice vp2 nv vc2) := KE.cell 2
    have HBE := Lib.hid hbE
    rw [← hWE]
    clear hWE KE hbE
    exact bodyPost_ret (v := .tuple #[.agg #[.int .i64 r0, .slice kp2 nk kc2, .slice vp2 nv vc2], .int .i64 rv, .bool rb]) (by simp [results, Try.results11, go_sem, e0, e1, e2]) rfl (DoPost.mk r0 nk nv rv rb kp2 kc2 vp2 vc2 R0.out NK.out NV.out RV.out RB.out rfl N1.out N2.out HBE.out
      (HPK.out.imp id fun h b off e => by have := h b off e; omega) (HPV.out.imp id fun h b off e => by have := h b off e; omega))
  · have hrr : pushC c ⟨4, oo, oa, ob⟩ = r := by rw [← hr]; rfl
    have HCTP := Lib.hid fun wx (hx : Below W.heap.size W wx) => push_any c ⟨4, oo, oa, ob⟩ kn vn H1.out H2.out kp vp kc vc wx (HK.out.later hx) (HV.out.later hx) l1 l2
    rw [hrr] at HCTP
    clear hr hrr
    have lk1 := K1.lt
    have lk2 := K2.lt
    have cy0 : ∀ y : After W, y.w.cell? ⟨w.heap.size, 0, none⟩ = some (.int .i64 c.kind) := fun y => (y.cell lk1).trans (K1.cell 0)
    have cy1 : ∀ y : After W, y.w.cell? ⟨w.heap.size, 1, none⟩ = some (.slice kp kn kc) := fun y => (y.cell lk1).trans (K1.cell 1)
    have cy2 : ∀ y : After W, y.w.cell? ⟨w.heap.size, 2, none⟩ = some (.slice vp vn vc) := fun y => (y.cell lk1).trans (K1.cell 2)
    have oy0 : ∀ y : After W, y.w.cell? ⟨w.heap.size + 1, 0, none⟩ = some (.int .i64 4) := fun y => (y.cell lk2).trans (K2.cell 0)
    have oy1 : ∀ y : After W, y.w.cell? ⟨w.heap.size + 1, 1, none⟩ = some (.int .i64 oo) := fun y => (y.cell lk2).trans (K2.cell 1)
    have oy2 : ∀ y : After W, y.w.cell? ⟨w.heap.size + 1, 2, none⟩ = some (.int .i64 oa) := fun y => (y.cell lk2).trans (K2.cell 2)
    have oy3 : ∀ y : After W, y.w.cell? ⟨w.heap.size + 1, 3, none⟩ = some (.int .i64 ob) := fun y => (y.cell lk2).trans (K2.cell 3)
    go_enter Try.func11, Try.ntmps11
    go_wp2_with fail
    rw [← HW.out]
    refine wp_region_after (by kernel_rfl) (by kernel_rfl) ?_
    repeat (go_big_quiet_step (first
      | (go_at_call 14; exact calls_after_same ((of_kind _ _).mono fun _ _ ⟨h1, h2⟩ => ⟨by rw [h1, HOK.out], h2.symm⟩))
      | (go_at_call 10; exact calls_after (HRT.out _))))
    refine wpQuiet_nil ?_
    rintro _ ⟨y, rfl⟩
    obtain ⟨X, hX⟩ : ∃ X, X = y.w := ⟨_, rfl⟩
    have hb := y.bel
    rw [← hX] at hb
    rw [← hX]
    have HBWX := Lib.hid hb
    have K1x := K1.later hb
    have K2x := K2.later hb
    have K3x := K3.later hb
    have HKX := Lib.hid (HK.out.later hb)
    have HVX := Lib.hid (HV.out.later hb)
    have HBX := Lib.hid (HB.out.trans (hb.mono HB.out.size))
    clear K1 K2 K3 hX hb y cy0 cy1 cy2 oy0 oy1 oy2 oy3 lk1 lk2
    have K1 := K1x
    have K2 := K2x
    have K3 := K3x
    clear K1x K2x K3x
    have HCTQ := Lib.hid fun wx (hx : Below X.heap.size X wx) => HCTP.out wx (HBWX.out.trans (hx.mono HBWX.out.size))
    have c0 : X.cell? ⟨w.heap.size, 0, none⟩ = some (.int .i64 c.kind) := K1.cell 0
    have c1 : X.cell? ⟨w.heap.size, 1, none⟩ = some (.slice kp kn kc) := K1.cell 1
    have c2 : X.cell? ⟨w.heap.size, 2, none⟩ = some (.slice vp vn vc) := K1.cell 2
    have o0 : X.cell? ⟨w.heap.size + 1, 0, none⟩ = some (.int .i64 4) := K2.cell 0
    have o1 : X.cell? ⟨w.heap.size + 1, 1, none⟩ = some (.int .i64 oo) := K2.cell 1
    have o2 : X.cell? ⟨w.heap.size + 1, 2, none⟩ = some (.int .i64 oa) := K2.cell 2
    have o3 : X.cell? ⟨w.heap.size + 1, 3, none⟩ = some (.int .i64 ob) := K2.cell 3
    have lk1 := K1.lt
    have lk2 := K2.lt
    have lk3 := K3.lt
    have hix := idx4
    have HCT := Lib.hid fun wx (hx : Below X.heap.size X wx) => (show Calls Try.prog 24 #[.agg #[.int .i64 c.kind, .slice kp kn kc, .slice vp vn vc], .agg #[.int .i64 4, .int .i64 oo, .int .i64 oa, .int .i64 ob]] wx (DoPost wx c kp vp r) from HCTQ.out wx hx)
    go_wp2_with fail
    go_region_held3 (fun w' => w'.cell? ⟨w.heap.size, 0, none⟩ = some (.int .i64 c.kind) ∧ w'.cell? ⟨w.heap.size, 1, none⟩ = some (.slice kp kn kc) ∧ w'.cell? ⟨w.heap.size, 2, none⟩ = some (.slice vp vn vc) ∧
        w'.cell? ⟨w.heap.size + 1, 0, none⟩ = some (.int .i64 4) ∧ w'.cell? ⟨w.heap.size + 1, 1, none⟩ = some (.int .i64 oo) ∧ w'.cell? ⟨w.heap.size + 1, 2, none⟩ = some (.int .i64 oa) ∧ w'.cell? ⟨w.heap.size + 1, 3, none⟩ = some (.int .i64 ob))
      (first
        | exact ⟨c0, c1, c2, o0, o1, o2, o3⟩
        | exact ⟨k0, k1, k2, j0, j1, j2, j3⟩
        | exact ⟨l0, l1', l2', m0, m1, m2, m3⟩
        | exact ⟨s0 _ _ _, s1 _ _ _, s2 _ _ _, t0 _ _ _, t1 _ _ _, t2 _ _ _, t3 _ _ _⟩)
      (first
        | (go_at_call 20
           refine (ops_any _).mono ?_
           rintro e w3 ⟨rfl, hb3⟩
           have hb4 : Below X.heap.size X w3 := (Below.refl _ _).drew.trans hb3
           have k0 := (hb4.cell (p := ⟨w.heap.size, 0, none⟩) lk1).trans c0
           have k1 := (hb4.cell (p := ⟨w.heap.size, 1, none⟩) lk1).trans c1
           have k2 := (hb4.cell (p := ⟨w.heap.size, 2, none⟩) lk1).trans c2
           have j0 := (hb4.cell (p := ⟨w.heap.size + 1, 0, none⟩) lk2).trans o0
           have j1 := (hb4.cell (p := ⟨w.heap.size + 1, 1, none⟩) lk2).trans o1
           have j2 := (hb4.cell (p := ⟨w.heap.size + 1, 2, none⟩) lk2).trans o2
           have j3 := (hb4.cell (p := ⟨w.heap.size + 1, 3, none⟩) lk2).trans o3)
        | (go_at_call 24
           refine (HCT.out _ hb4).mono ?_
           rintro e w5 hp5
           obtain ⟨kp2, kc2, vp2, vc2, rfl, hqk, hqv, hb5, hpk, hpv⟩ := hp5.at r0 nk nv rv rb R0.out NK.out NV.out RV.out RB.out
           have hb6 : Below X.heap.size X w5 := hb4.trans (hb5.mono hb4.size)
           have l0 := (hb6.cell (p := ⟨w.heap.size, 0, none⟩) lk1).trans c0
           have l1' := (hb6.cell (p := ⟨w.heap.size, 1, none⟩) lk1).trans c1
           have l2' := (hb6.cell (p := ⟨w.heap.size, 2, none⟩) lk1).trans c2
           have m0 := (hb6.cell (p := ⟨w.heap.size + 1, 0, none⟩) lk2).trans o0
           have m1 := (hb6.cell (p := ⟨w.heap.size + 1, 1, none⟩) lk2).trans o1
           have m2 := (hb6.cell (p := ⟨w.heap.size + 1, 2, none⟩) lk2).trans o2
           have m3 := (hb6.cell (p := ⟨w.heap.size + 1, 3, none⟩) lk2).trans o3
           have s0 : ∀ v0 v1 v2, (((w5.setCell ⟨w.heap.size + 1 + 1, 0, none⟩ v0).setCell ⟨w.heap.size + 1 + 1, 1, none⟩ v1).setCell ⟨w.heap.size + 1 + 1, 2, none⟩ v2).cell? ⟨w.heap.size, 0, none⟩ = some (.int .i64 c.kind) := fun _ _ _ => get_far (get_far (get_far l0 (by intro e; injection e with e; omega)) (by intro e; injection e with e; omega)) (by intro e; injection e with e; omega)
           have s1 : ∀ v0 v1 v2, (((w5.setCell ⟨w.heap.size + 1 + 1, 0, none⟩ v0).setCell ⟨w.heap.size + 1 + 1, 1, none⟩ v1).setCell ⟨w.heap.size + 1 + 1, 2, none⟩ v2).cell? ⟨w.heap.size, 1, none⟩ = some (.slice kp kn kc) := fun _ _ _ => get_far (get_far (get_far l1' (by intro e; injection e with e; omega)) (by intro e; injection e with e; omega)) (by intro e; injection e with e; omega)
           have s2 : ∀ v0 v1 v2, (((w5.setCell ⟨w.heap.size + 1 + 1, 0, none⟩ v0).setCell ⟨w.heap.size + 1 + 1, 1, none⟩ v1).setCell ⟨w.heap.size + 1 + 1, 2, none⟩ v2).cell? ⟨w.heap.size, 2, none⟩ = some (.slice vp vn vc) := fun _ _ _ => get_far (get_far (get_far l2' (by intro e; injection e with e; omega)) (by intro e; injection e with e; omega)) (by intro e; injection e with e; omega)
           have t0 : ∀ v0 v1 v2, (((w5.setCell ⟨w.heap.size + 1 + 1, 0, none⟩ v0).setCell ⟨w.heap.size + 1 + 1, 1, none⟩ v1).setCell ⟨w.heap.size + 1 + 1, 2, none⟩ v2).cell? ⟨w.heap.size + 1, 0, none⟩ = some (.int .i64 4) := fun _ _ _ => get_far (get_far (get_far m0 (by intro e; injection e with e; omega)) (by intro e; injection e with e; omega)) (by intro e; injection e with e; omega)
           have t1 : ∀ v0 v1 v2, (((w5.setCell ⟨w.heap.size + 1 + 1, 0, none⟩ v0).setCell ⟨w.heap.size + 1 + 1, 1, none⟩ v1).setCell ⟨w.heap.size + 1 + 1, 2, none⟩ v2).cell? ⟨w.heap.size + 1, 1, none⟩ = some (.int .i64 oo) := fun _ _ _ => get_far (get_far (get_far m1 (by intro e; injection e with e; omega)) (by intro e; injection e with e; omega)) (by intro e; injection e with e; omega)
           have t2 : ∀ v0 v1 v2, (((w5.setCell ⟨w.heap.size + 1 + 1, 0, none⟩ v0).setCell ⟨w.heap.size + 1 + 1, 1, none⟩ v1).setCell ⟨w.heap.size + 1 + 1, 2, none⟩ v2).cell? ⟨w.heap.size + 1, 2, none⟩ = some (.int .i64 oa) := fun _ _ _ => get_far (get_far (get_far m2 (by intro e; injection e with e; omega)) (by intro e; injection e with e; omega)) (by intro e; injection e with e; omega)
           have t3 : ∀ v0 v1 v2, (((w5.setCell ⟨w.heap.size + 1 + 1, 0, none⟩ v0).setCell ⟨w.heap.size + 1 + 1, 1, none⟩ v1).setCell ⟨w.heap.size + 1 + 1, 2, none⟩ v2).cell? ⟨w.heap.size + 1, 3, none⟩ = some (.int .i64 ob) := fun _ _ _ => get_far (get_far (get_far m3 (by intro e; injection e with e; omega)) (by intro e; injection e with e; omega)) (by intro e; injection e with e; omega)
           have K4 := K3.later hb6
           have z0 : w5.cell? ⟨w.heap.size + 1 + 1, 0, none⟩ = some (.int .i64 0) := K4.cell 0
           have f0 := K4.free 0
           have z1 : w5.cell? ⟨w.heap.size + 1 + 1, 1, none⟩ = some (.slice none 0 0) := K4.cell 1
           have f1 := K4.free 1
           have z2 : w5.cell? ⟨w.heap.size + 1 + 1, 2, none⟩ = some (.slice none 0 0) := K4.cell 2
           have f2 := K4.free 2
           have HB5 := Lib.hid (HBX.out.trans (hb6.mono HBX.out.size))
           have h34 : w.heap.size + 1 + 1 < w3.heap.size := Nat.lt_of_lt_of_le lk3 hb4.size
           have HQK := Lib.hid hqk
           have HQV := Lib.hid hqv
           have HPK := Lib.hid hpk
           have HPV := Lib.hid hpv
           clear hb5 hb6 hqk hqv hpk hpv))
    go_wp2_with fail
    clear l0 l1' l2' m0 m1 m2 m3 s0 s1 s2 t0 t1 t2 t3 z0 z1 z2 f0 f1 f2 c0 c1 c2 o0 o1 o2 o3 k0 k1 k2 j0 j1 j2 j3
    obtain ⟨WE, hWE⟩ : ∃ WE, WE = (((w5.setCell ⟨w.heap.size + 1 + 1, 0, none⟩ (.int .i64 r0)).setCell ⟨w.heap.size + 1 + 1, 1, none⟩ (.slice kp2 nk kc2)).setCell ⟨w.heap.size + 1 + 1, 2, none⟩ (.slice vp2 nv vc2)) := ⟨_, rfl⟩
    have KE : Blk WE (w.heap.size + 1 + 1) 24 #[.int .i64 r0, .slice kp2 nk kc2, .slice vp2 nv vc2] := by rw [hWE]; exact K4.put3 _ _ _
    have hbE : Below w.heap.size w WE := by rw [hWE]; exact below_set3 HB5.out hs3 _ _ _
    have N1 := Lib.hid (show Nums WE kp2 kc2 r.1.keys from by rw [hWE]; exact HQK.out.far3 _ _ _ _ (fun h b off e => by
      rcases HPK.out with ⟨h1, h2⟩ | h1
      · rw [h2] at h; have := HKL.out h b off (h1 ▸ e); omega
      · have := h1 b off e; omega))
    have N2 := Lib.hid (show Nums WE vp2 vc2 r.1.vals from by rw [hWE]; exact HQV.out.far3 _ _ _ _ (fun h b off e => by
      rcases HPV.out with ⟨h1, h2⟩ | h1
      · rw [h2] at h; have := HVL.out h b off (h1 ▸ e); omega
      · have := h1 b off e; omega))
    have e0 : WE.cell? ⟨w.heap.size + 1 + 1, 0, none⟩ = some (.int .i64 r0) := KE.cell 0
    have e1 : WE.cell? ⟨w.heap.size + 1 + 1, 1, none⟩ = some (.slice kp2 nk kc2) := KE.cell 1
    have e2 : WE.cell? ⟨w.heap.size + 1 + 1, 2, none⟩ = some (.slice vp2 nv vc2) := KE.cell 2
    have HBE := Lib.hid hbE
    rw [← hWE]
    clear hWE KE hbE
    exact bodyPost_ret (v := .tuple #[.agg #[.int .i64 r0, .slice kp2 nk kc2, .slice vp2 nv vc2], .int .i64 rv, .bool rb]) (by simp [results, Try.results11, go_sem, e0, e1, e2]) rfl (DoPost.mk r0 nk nv rv rb kp2 kc2 vp2 vc2 R0.out NK.out NV.out RV.out RB.out rfl N1.out N2.out HBE.out
      (HPK.out.imp id fun h b off e => by have := h b off e; omega) (HPV.out.imp id fun h b off e => by have := h b off e; omega))
  · have hrr : firstC c = r := by rw [← hr]; rfl
    have HCTP := Lib.hid fun wx (hx : Below W.heap.size W wx) => first_any c ⟨5, oo, oa, ob⟩ kn vn H1.out H2.out kp vp kc vc wx (HK.out.later hx) (HV.out.later hx) l1 l2
    rw [hrr] at HCTP
    clear hr hrr
    have lk1 := K1.lt
    have lk2 := K2.lt
    have cy0 : ∀ y : After W, y.w.cell? ⟨w.heap.size, 0, none⟩ = some (.int .i64 c.kind) := fun y => (y.cell lk1).trans (K1.cell 0)
    have cy1 : ∀ y : After W, y.w.cell? ⟨w.heap.size, 1, none⟩ = some (.slice kp kn kc) := fun y => (y.cell lk1).trans (K1.cell 1)
    have cy2 : ∀ y : After W, y.w.cell? ⟨w.heap.size, 2, none⟩ = some (.slice vp vn vc) := fun y => (y.cell lk1).trans (K1.cell 2)
    have oy0 : ∀ y : After W, y.w.cell? ⟨w.heap.size + 1, 0, none⟩ = some (.int .i64 5) := fun y => (y.cell lk2).trans (K2.cell 0)
    have oy1 : ∀ y : After W, y.w.cell? ⟨w.heap.size + 1, 1, none⟩ = some (.int .i64 oo) := fun y => (y.cell lk2).trans (K2.cell 1)
    have oy2 : ∀ y : After W, y.w.cell? ⟨w.heap.size + 1, 2, none⟩ = some (.int .i64 oa) := fun y => (y.cell lk2).trans (K2.cell 2)
    have oy3 : ∀ y : After W, y.w.cell? ⟨w.heap.size + 1, 3, none⟩ = some (.int .i64 ob) := fun y => (y.cell lk2).trans (K2.cell 3)
    go_enter Try.func11, Try.ntmps11
    go_wp2_with fail
    rw [← HW.out]
    refine wp_region_after (by kernel_rfl) (by kernel_rfl) ?_
    repeat (go_big_quiet_step (first
      | (go_at_call 14; exact calls_after_same ((of_kind _ _).mono fun _ _ ⟨h1, h2⟩ => ⟨by rw [h1, HOK.out], h2.symm⟩))
      | (go_at_call 10; exact calls_after (HRT.out _))))
    refine wpQuiet_nil ?_
    rintro _ ⟨y, rfl⟩
    obtain ⟨X, hX⟩ : ∃ X, X = y.w := ⟨_, rfl⟩
    have hb := y.bel
    rw [← hX] at hb
    rw [← hX]
    have HBWX := Lib.hid hb
    have K1x := K1.later hb
    have K2x := K2.later hb
    have K3x := K3.later hb
    have HKX := Lib.hid (HK.out.later hb)
    have HVX := Lib.hid (HV.out.later hb)
    have HBX := Lib.hid (HB.out.trans (hb.mono HB.out.size))
    clear K1 K2 K3 hX hb y cy0 cy1 cy2 oy0 oy1 oy2 oy3 lk1 lk2
    have K1 := K1x
    have K2 := K2x
    have K3 := K3x
    clear K1x K2x K3x
    have HCTQ := Lib.hid fun wx (hx : Below X.heap.size X wx) => HCTP.out wx (HBWX.out.trans (hx.mono HBWX.out.size))
    have c0 : X.cell? ⟨w.heap.size, 0, none⟩ = some (.int .i64 c.kind) := K1.cell 0
    have c1 : X.cell? ⟨w.heap.size, 1, none⟩ = some (.slice kp kn kc) := K1.cell 1
    have c2 : X.cell? ⟨w.heap.size, 2, none⟩ = some (.slice vp vn vc) := K1.cell 2
    have o0 : X.cell? ⟨w.heap.size + 1, 0, none⟩ = some (.int .i64 5) := K2.cell 0
    have o1 : X.cell? ⟨w.heap.size + 1, 1, none⟩ = some (.int .i64 oo) := K2.cell 1
    have o2 : X.cell? ⟨w.heap.size + 1, 2, none⟩ = some (.int .i64 oa) := K2.cell 2
    have o3 : X.cell? ⟨w.heap.size + 1, 3, none⟩ = some (.int .i64 ob) := K2.cell 3
    have lk1 := K1.lt
    have lk2 := K2.lt
    have lk3 := K3.lt
    have hix := idx5
    have HCT := Lib.hid fun wx (hx : Below X.heap.size X wx) => (show Calls Try.prog 25 #[.agg #[.int .i64 c.kind, .slice kp kn kc, .slice vp vn vc], .agg #[.int .i64 5, .int .i64 oo, .int .i64 oa, .int .i64 ob]] wx (DoPost wx c kp vp r) from HCTQ.out wx hx)
    go_wp2_with fail
    go_region_held3 (fun w' => w'.cell? ⟨w.heap.size, 0, none⟩ = some (.int .i64 c.kind) ∧ w'.cell? ⟨w.heap.size, 1, none⟩ = some (.slice kp kn kc) ∧ w'.cell? ⟨w.heap.size, 2, none⟩ = some (.slice vp vn vc) ∧
        w'.cell? ⟨w.heap.size + 1, 0, none⟩ = some (.int .i64 5) ∧ w'.cell? ⟨w.heap.size + 1, 1, none⟩ = some (.int .i64 oo) ∧ w'.cell? ⟨w.heap.size + 1, 2, none⟩ = some (.int .i64 oa) ∧ w'.cell? ⟨w.heap.size + 1, 3, none⟩ = some (.int .i64 ob))
      (first
        | exact ⟨c0, c1, c2, o0, o1, o2, o3⟩
        | exact ⟨k0, k1, k2, j0, j1, j2, j3⟩
        | exact ⟨l0, l1', l2', m0, m1, m2, m3⟩
        | exact ⟨s0 _ _ _, s1 _ _ _, s2 _ _ _, t0 _ _ _, t1 _ _ _, t2 _ _ _, t3 _ _ _⟩)
      (first
        | (go_at_call 20
           refine (ops_any _).mono ?_
           rintro e w3 ⟨rfl, hb3⟩
           have hb4 : Below X.heap.size X w3 := (Below.refl _ _).drew.trans hb3
           have k0 := (hb4.cell (p := ⟨w.heap.size, 0, none⟩) lk1).trans c0
           have k1 := (hb4.cell (p := ⟨w.heap.size, 1, none⟩) lk1).trans c1
           have k2 := (hb4.cell (p := ⟨w.heap.size, 2, none⟩) lk1).trans c2
           have j0 := (hb4.cell (p := ⟨w.heap.size + 1, 0, none⟩) lk2).trans o0
           have j1 := (hb4.cell (p := ⟨w.heap.size + 1, 1, none⟩) lk2).trans o1
           have j2 := (hb4.cell (p := ⟨w.heap.size + 1, 2, none⟩) lk2).trans o2
           have j3 := (hb4.cell (p := ⟨w.heap.size + 1, 3, none⟩) lk2).trans o3)
        | (go_at_call 25
           refine (HCT.out _ hb4).mono ?_
           rintro e w5 hp5
           obtain ⟨kp2, kc2, vp2, vc2, rfl, hqk, hqv, hb5, hpk, hpv⟩ := hp5.at r0 nk nv rv rb R0.out NK.out NV.out RV.out RB.out
           have hb6 : Below X.heap.size X w5 := hb4.trans (hb5.mono hb4.size)
           have l0 := (hb6.cell (p := ⟨w.heap.size, 0, none⟩) lk1).trans c0
           have l1' := (hb6.cell (p := ⟨w.heap.size, 1, none⟩) lk1).trans c1
           have l2' := (hb6.cell (p := ⟨w.heap.size, 2, none⟩) lk1).trans c2
           have m0 := (hb6.cell (p := ⟨w.heap.size + 1, 0, none⟩) lk2).trans o0
           have m1 := (hb6.cell (p := ⟨w.heap.size + 1, 1, none⟩) lk2).trans o1
           have m2 := (hb6.cell (p := ⟨w.heap.size + 1, 2, none⟩) lk2).trans o2
           have m3 := (hb6.cell (p := ⟨w.heap.size + 1, 3, none⟩) lk2).trans o3
           have s0 : ∀ v0 v1 v2, (((w5.setCell ⟨w.heap.size + 1 + 1, 0, none⟩ v0).setCell ⟨w.heap.size + 1 + 1, 1, none⟩ v1).setCell ⟨w.heap.size + 1 + 1, 2, none⟩ v2).cell? ⟨w.heap.size, 0, none⟩ = some (.int .i64 c.kind) := fun _ _ _ => get_far (get_far (get_far l0 (by intro e; injection e with e; omega)) (by intro e; injection e with e; omega)) (by intro e; injection e with e; omega)
           have s1 : ∀ v0 v1 v2, (((w5.setCell ⟨w.heap.size + 1 + 1, 0, none⟩ v0).setCell ⟨w.heap.size + 1 + 1, 1, none⟩ v1).setCell ⟨w.heap.size + 1 + 1, 2, none⟩ v2).cell? ⟨w.heap.size, 1, none⟩ = some (.slice kp kn kc) := fun _ _ _ => get_far (get_far (get_far l1' (by intro e; injection e with e; omega)) (by intro e; injection e with e; omega)) (by intro e; injection e with e; omega)
           have s2 : ∀ v0 v1 v2, (((w5.setCell ⟨w.heap.size + 1 + 1, 0, none⟩ v0).setCell ⟨w.heap.size + 1 + 1, 1, none⟩ v1).setCell ⟨w.heap.size + 1 + 1, 2, none⟩ v2).cell? ⟨w.heap.size, 2, none⟩ = some (.slice vp vn vc) := fun _ _ _ => get_far (get_far (get_far l2' (by intro e; injection e with e; omega)) (by intro e; injection e with e; omega)) (by intro e; injection e with e; omega)
           have t0 : ∀ v0 v1 v2, (((w5.setCell ⟨w.heap.size + 1 + 1, 0, none⟩ v0).setCell ⟨w.heap.size + 1 + 1, 1, none⟩ v1).setCell ⟨w.heap.size + 1 + 1, 2, none⟩ v2).cell? ⟨w.heap.size + 1, 0, none⟩ = some (.int .i64 5) := fun _ _ _ => get_far (get_far (get_far m0 (by intro e; injection e with e; omega)) (by intro e; injection e with e; omega)) (by intro e; injection e with e; omega)
           have t1 : ∀ v0 v1 v2, (((w5.setCell ⟨w.heap.size + 1 + 1, 0, none⟩ v0).setCell ⟨w.heap.size + 1 + 1, 1, none⟩ v1).setCell ⟨w.heap.size + 1 + 1, 2, none⟩ v2).cell? ⟨w.heap.size + 1, 1, none⟩ = some (.int .i64 oo) := fun _ _ _ => get_far (get_far (get_far m1 (by intro e; injection e with e; omega)) (by intro e; injection e with e; omega)) (by intro e; injection e with e; omega)
           have t2 : ∀ v0 v1 v2, (((w5.setCell ⟨w.heap.size + 1 + 1, 0, none⟩ v0).setCell ⟨w.heap.size + 1 + 1, 1, none⟩ v1).setCell ⟨w.heap.size + 1 + 1, 2, none⟩ v2).cell? ⟨w.heap.size + 1, 2, none⟩ = some (.int .i64 oa) := fun _ _ _ => get_far (get_far (get_far m2 (by intro e; injection e with e; omega)) (by intro e; injection e with e; omega)) (by intro e; injection e with e; omega)
           have t3 : ∀ v0 v1 v2, (((w5.setCell ⟨w.heap.size + 1 + 1, 0, none⟩ v0).setCell ⟨w.heap.size + 1 + 1, 1, none⟩ v1).setCell ⟨w.heap.size + 1 + 1, 2, none⟩ v2).cell? ⟨w.heap.size + 1, 3, none⟩ = some (.int .i64 ob) := fun _ _ _ => get_far (get_far (get_far m3 (by intro e; injection e with e; omega)) (by intro e; injection e with e; omega)) (by intro e; injection e with e; omega)
           have K4 := K3.later hb6
           have z0 : w5.cell? ⟨w.heap.size + 1 + 1, 0, none⟩ = some (.int .i64 0) := K4.cell 0
           have f0 := K4.free 0
           have z1 : w5.cell? ⟨w.heap.size + 1 + 1, 1, none⟩ = some (.slice none 0 0) := K4.cell 1
           have f1 := K4.free 1
           have z2 : w5.cell? ⟨w.heap.size + 1 + 1, 2, none⟩ = some (.slice none 0 0) := K4.cell 2
           have f2 := K4.free 2
           have HB5 := Lib.hid (HBX.out.trans (hb6.mono HBX.out.size))
           have h34 : w.heap.size + 1 + 1 < w3.heap.size := Nat.lt_of_lt_of_le lk3 hb4.size
           have HQK := Lib.hid hqk
           have HQV := Lib.hid hqv
           have HPK := Lib.hid hpk
           have HPV := Lib.hid hpv
           clear hb5 hb6 hqk hqv hpk hpv))
    go_wp2_with fail
    clear l0 l1' l2' m0 m1 m2 m3 s0 s1 s2 t0 t1 t2 t3 z0 z1 z2 f0 f1 f2 c0 c1 c2 o0 o1 o2 o3 k0 k1 k2 j0 j1 j2 j3
    obtain ⟨WE, hWE⟩ : ∃ WE, WE = (((w5.setCell ⟨w.heap.size + 1 + 1, 0, none⟩ (.int .i64 r0)).setCell ⟨w.heap.size + 1 + 1, 1, none⟩ (.slice kp2 nk kc2)).setCell ⟨w.heap.size + 1 + 1, 2, none⟩ (.slice vp2 nv vc2)) := ⟨_, rfl⟩
    have KE : Blk WE (w.heap.size + 1 + 1) 24 #[.int .i64 r0, .slice kp2 nk kc2, .slice vp2 nv vc2] := by rw [hWE]; exact K4.put3 _ _ _
    have hbE : Below w.heap.size w WE := by rw [hWE]; exact below_set3 HB5.out hs3 _ _ _
    have N1 := Lib.hid (show Nums WE kp2 kc2 r.1.keys from by rw [hWE]; exact HQK.out.far3 _ _ _ _ (fun h b off e => by
      rcases HPK.out with ⟨h1, h2⟩ | h1
      · rw [h2] at h; have := HKL.out h b off (h1 ▸ e); omega
      · have := h1 b off e; omega))
    have N2 := Lib.hid (show Nums WE vp2 vc2 r.1.vals from by rw [hWE]; exact HQV.out.far3 _ _ _ _ (fun h b off e => by
      rcases HPV.out with ⟨h1, h2⟩ | h1
      · rw [h2] at h; have := HVL.out h b off (h1 ▸ e); omega
      · have := h1 b off e; omega))
    have e0 : WE.cell? ⟨w.heap.size + 1 + 1, 0, none⟩ = some (.int .i64 r0) := KE.cell 0
    have e1 : WE.cell? ⟨w.heap.size + 1 + 1, 1, none⟩ = some (.slice kp2 nk kc2) := KE.cell 1
    have e2 : WE.cell? ⟨w.heap.size + 1 + 1, 2, none⟩ = some (.slice vp2 nv vc2) := KE.cell 2
    have HBE := Lib.hid hbE
    rw [← hWE]
    clear hWE KE hbE
    exact bodyPost_ret (v := .tuple #[.agg #[.int .i64 r0, .slice kp2 nk kc2, .slice vp2 nv vc2], .int .i64 rv, .bool rb]) (by simp [results, Try.results11, go_sem, e0, e1, e2]) rfl (DoPost.mk r0 nk nv rv rb kp2 kc2 vp2 vc2 R0.out NK.out NV.out RV.out RB.out rfl N1.out N2.out HBE.out
      (HPK.out.imp id fun h b off e => by have := h b off e; omega) (HPV.out.imp id fun h b off e => by have := h b off e; omega))
  · have hrr : sendC c ⟨6, oo, oa, ob⟩ = r := by rw [← hr]; rfl
    have HCTP := Lib.hid fun wx (hx : Below W.heap.size W wx) => send_any c ⟨6, oo, oa, ob⟩ kn vn H1.out H2.out kp vp kc vc wx (HK.out.later hx) (HV.out.later hx) l1 l2
    rw [hrr] at HCTP
    clear hr hrr
    have lk1 := K1.lt
    have lk2 := K2.lt
    have cy0 : ∀ y : After W, y.w.cell? ⟨w.heap.size, 0, none⟩ = some (.int .i64 c.kind) := fun y => (y.cell lk1).trans (K1.cell 0)
    have cy1 : ∀ y : After W, y.w.cell? ⟨w.heap.size, 1, none⟩ = some (.slice kp kn kc) := fun y => (y.cell lk1).trans (K1.cell 1)
    have cy2 : ∀ y : After W, y.w.cell? ⟨w.heap.size, 2, none⟩ = some (.slice vp vn vc) := fun y => (y.cell lk1).trans (K1.cell 2)
    have oy0 : ∀ y : After W, y.w.cell? ⟨w.heap.size + 1, 0, none⟩ = some (.int .i64 6) := fun y => (y.cell lk2).trans (K2.cell 0)
    have oy1 : ∀ y : After W, y.w.cell? ⟨w.heap.size + 1, 1, none⟩ = some (.int .i64 oo) := fun y => (y.cell lk2).trans (K2.cell 1)
    have oy2 : ∀ y : After W, y.w.cell? ⟨w.heap.size + 1, 2, none⟩ = some (.int .i64 oa) := fun y => (y.cell lk2).trans (K2.cell 2)
    have oy3 : ∀ y : After W, y.w.cell? ⟨w.heap.size + 1, 3, none⟩ = some (.int .i64 ob) := fun y => (y.cell lk2).trans (K2.cell 3)
    go_enter Try.func11, Try.ntmps11
    go_wp2_with fail
    rw [← HW.out]
    refine wp_region_after (by kernel_rfl) (by kernel_rfl) ?_
    repeat (go_big_quiet_step (first
      | (go_at_call 14; exact calls_after_same ((of_kind _ _).mono fun _ _ ⟨h1, h2⟩ => ⟨by rw [h1, HOK.out], h2.symm⟩))
      | (go_at_call 10; exact calls_after (HRT.out _))))
    refine wpQuiet_nil ?_
    rintro _ ⟨y, rfl⟩
    obtain ⟨X, hX⟩ : ∃ X, X = y.w := ⟨_, rfl⟩
    have hb := y.bel
    rw [← hX] at hb
    rw [← hX]
    have HBWX := Lib.hid hb
    have K1x := K1.later hb
    have K2x := K2.later hb
    have K3x := K3.later hb
    have HKX := Lib.hid (HK.out.later hb)
    have HVX := Lib.hid (HV.out.later hb)
    have HBX := Lib.hid (HB.out.trans (hb.mono HB.out.size))
    clear K1 K2 K3 hX hb y cy0 cy1 cy2 oy0 oy1 oy2 oy3 lk1 lk2
    have K1 := K1x
    have K2 := K2x
    have K3 := K3x
    clear K1x K2x K3x
    have HCTQ := Lib.hid fun wx (hx : Below X.heap.size X wx) => HCTP.out wx (HBWX.out.trans (hx.mono HBWX.out.size))
    have c0 : X.cell? ⟨w.heap.size, 0, none⟩ = some (.int .i64 c.kind) := K1.cell 0
    have c1 : X.cell? ⟨w.heap.size, 1, none⟩ = some (.slice kp kn kc) := K1.cell 1
    have c2 : X.cell? ⟨w.heap.size, 2, none⟩ = some (.slice vp vn vc) := K1.cell 2
    have o0 : X.cell? ⟨w.heap.size + 1, 0, none⟩ = some (.int .i64 6) := K2.cell 0
    have o1 : X.cell? ⟨w.heap.size + 1, 1, none⟩ = some (.int .i64 oo) := K2.cell 1
    have o2 : X.cell? ⟨w.heap.size + 1, 2, none⟩ = some (.int .i64 oa) := K2.cell 2
    have o3 : X.cell? ⟨w.heap.size + 1, 3, none⟩ = some (.int .i64 ob) := K2.cell 3
    have lk1 := K1.lt
    have lk2 := K2.lt
    have lk3 := K3.lt
    have hix := idx6
    have HCT := Lib.hid fun wx (hx : Below X.heap.size X wx) => (show Calls Try.prog 26 #[.agg #[.int .i64 c.kind, .slice kp kn kc, .slice vp vn vc], .agg #[.int .i64 6, .int .i64 oo, .int .i64 oa, .int .i64 ob]] wx (DoPost wx c kp vp r) from HCTQ.out wx hx)
    go_wp2_with fail
    go_region_held3 (fun w' => w'.cell? ⟨w.heap.size, 0, none⟩ = some (.int .i64 c.kind) ∧ w'.cell? ⟨w.heap.size, 1, none⟩ = some (.slice kp kn kc) ∧ w'.cell? ⟨w.heap.size, 2, none⟩ = some (.slice vp vn vc) ∧
        w'.cell? ⟨w.heap.size + 1, 0, none⟩ = some (.int .i64 6) ∧ w'.cell? ⟨w.heap.size + 1, 1, none⟩ = some (.int .i64 oo) ∧ w'.cell? ⟨w.heap.size + 1, 2, none⟩ = some (.int .i64 oa) ∧ w'.cell? ⟨w.heap.size + 1, 3, none⟩ = some (.int .i64 ob))
      (first
        | exact ⟨c0, c1, c2, o0, o1, o2, o3⟩
        | exact ⟨k0, k1, k2, j0, j1, j2, j3⟩
        | exact ⟨l0, l1', l2', m0, m1, m2, m3⟩
        | exact ⟨s0 _ _ _, s1 _ _ _, s2 _ _ _, t0 _ _ _, t1 _ _ _, t2 _ _ _, t3 _ _ _⟩)
      (first
        | (go_at_call 20
           refine (ops_any _).mono ?_
           rintro e w3 ⟨rfl, hb3⟩
           have hb4 : Below X.heap.size X w3 := (Below.refl _ _).drew.trans hb3
           have k0 := (hb4.cell (p := ⟨w.heap.size, 0, none⟩) lk1).trans c0
           have k1 := (hb4.cell (p := ⟨w.heap.size, 1, none⟩) lk1).trans c1
           have k2 := (hb4.cell (p := ⟨w.heap.size, 2, none⟩) lk1).trans c2
           have j0 := (hb4.cell (p := ⟨w.heap.size + 1, 0, none⟩) lk2).trans o0
           have j1 := (hb4.cell (p := ⟨w.heap.size + 1, 1, none⟩) lk2).trans o1
           have j2 := (hb4.cell (p := ⟨w.heap.size + 1, 2, none⟩) lk2).trans o2
           have j3 := (hb4.cell (p := ⟨w.heap.size + 1, 3, none⟩) lk2).trans o3)
        | (go_at_call 26
           refine (HCT.out _ hb4).mono ?_
           rintro e w5 hp5
           obtain ⟨kp2, kc2, vp2, vc2, rfl, hqk, hqv, hb5, hpk, hpv⟩ := hp5.at r0 nk nv rv rb R0.out NK.out NV.out RV.out RB.out
           have hb6 : Below X.heap.size X w5 := hb4.trans (hb5.mono hb4.size)
           have l0 := (hb6.cell (p := ⟨w.heap.size, 0, none⟩) lk1).trans c0
           have l1' := (hb6.cell (p := ⟨w.heap.size, 1, none⟩) lk1).trans c1
           have l2' := (hb6.cell (p := ⟨w.heap.size, 2, none⟩) lk1).trans c2
           have m0 := (hb6.cell (p := ⟨w.heap.size + 1, 0, none⟩) lk2).trans o0
           have m1 := (hb6.cell (p := ⟨w.heap.size + 1, 1, none⟩) lk2).trans o1
           have m2 := (hb6.cell (p := ⟨w.heap.size + 1, 2, none⟩) lk2).trans o2
           have m3 := (hb6.cell (p := ⟨w.heap.size + 1, 3, none⟩) lk2).trans o3
           have s0 : ∀ v0 v1 v2, (((w5.setCell ⟨w.heap.size + 1 + 1, 0, none⟩ v0).setCell ⟨w.heap.size + 1 + 1, 1, none⟩ v1).setCell ⟨w.heap.size + 1 + 1, 2, none⟩ v2).cell? ⟨w.heap.size, 0, none⟩ = some (.int .i64 c.kind) := fun _ _ _ => get_far (get_far (get_far l0 (by intro e; injection e with e; omega)) (by intro e; injection e with e; omega)) (by intro e; injection e with e; omega)
           have s1 : ∀ v0 v1 v2, (((w5.setCell ⟨w.heap.size + 1 + 1, 0, none⟩ v0).setCell ⟨w.heap.size + 1 + 1, 1, none⟩ v1).setCell ⟨w.heap.size + 1 + 1, 2, none⟩ v2).cell? ⟨w.heap.size, 1, none⟩ = some (.slice kp kn kc) := fun _ _ _ => get_far (get_far (get_far l1' (by intro e; injection e with e; omega)) (by intro e; injection e with e; omega)) (by intro e; injection e with e; omega)
           have s2 : ∀ v0 v1 v2, (((w5.setCell ⟨w.heap.size + 1 + 1, 0, none⟩ v0).setCell ⟨w.heap.size + 1 + 1, 1, none⟩ v1).setCell ⟨w.heap.size + 1 + 1, 2, none⟩ v2).cell? ⟨w.heap.size, 2, none⟩ = some (.slice vp vn vc) := fun _ _ _ => get_far (get_far (get_far l2' (by intro e; injection e with e; omega)) (by intro e; injection e with e; omega)) (by intro e; injection e with e; omega)
           have t0 : ∀ v0 v1 v2, (((w5.setCell ⟨w.heap.size + 1 + 1, 0, none⟩ v0).setCell ⟨w.heap.size + 1 + 1, 1, none⟩ v1).setCell ⟨w.heap.size + 1 + 1, 2, none⟩ v2).cell? ⟨w.heap.size + 1, 0, none⟩ = some (.int .i64 6) := fun _ _ _ => get_far (get_far (get_far m0 (by intro e; injection e with e; omega)) (by intro e; injection e with e; omega)) (by intro e; injection e with e; omega)
           have t1 : ∀ v0 v1 v2, (((w5.setCell ⟨w.heap.size + 1 + 1, 0, none⟩ v0).setCell ⟨w.heap.size + 1 + 1, 1, none⟩ v1).setCell ⟨w.heap.size + 1 + 1, 2, none⟩ v2).cell? ⟨w.heap.size + 1, 1, none⟩ = some (.int .i64 oo) := fun _ _ _ => get_far (get_far (get_far m1 (by intro e; injection e with e; omega)) (by intro e; injection e with e; omega)) (by intro e; injection e with e; omega)
           have t2 : ∀ v0 v1 v2, (((w5.setCell ⟨w.heap.size + 1 + 1, 0, none⟩ v0).setCell ⟨w.heap.size + 1 + 1, 1, none⟩ v1).setCell ⟨w.heap.size + 1 + 1, 2, none⟩ v2).cell? ⟨w.heap.size + 1, 2, none⟩ = some (.int .i64 oa) := fun _ _ _ => get_far (get_far (get_far m2 (by intro e; injection e with e; omega)) (by intro e; injection e with e; omega)) (by intro e; injection e with e; omega)
           have t3 : ∀ v0 v1 v2, (((w5.setCell ⟨w.heap.size + 1 + 1, 0, none⟩ v0).setCell ⟨w.heap.size + 1 + 1, 1, none⟩ v1).setCell ⟨w.heap.size + 1 + 1, 2, none⟩ v2).cell? ⟨w.heap.size + 1, 3, none⟩ = some (.int .i64 ob) := fun _ _ _ => get_far (get_far (get_far m3 (by intro e; injection e with e; omega)) (by intro e; injection e with e; omega)) (by intro e; injection e with e; omega)
           have K4 := K3.later hb6
           have z0 : w5.cell? ⟨w.heap.size + 1 + 1, 0, none⟩ = some (.int .i64 0) := K4.cell 0
           have f0 := K4.free 0
           have z1 : w5.cell? ⟨w.heap.size + 1 + 1, 1, none⟩ = some (.slice none 0 0) := K4.cell 1
           have f1 := K4.free 1
           have z2 : w5.cell? ⟨w.heap.size + 1 + 1, 2, none⟩ = some (.slice none 0 0) := K4.cell 2
           have f2 := K4.free 2
           have HB5 := Lib.hid (HBX.out.trans (hb6.mono HBX.out.size))
           have h34 : w.heap.size + 1 + 1 < w3.heap.size := Nat.lt_of_lt_of_le lk3 hb4.size
           have HQK := Lib.hid hqk
           have HQV := Lib.hid hqv
           have HPK := Lib.hid hpk
           have HPV := Lib.hid hpv
           clear hb5 hb6 hqk hqv hpk hpv))
    go_wp2_with fail
    clear l0 l1' l2' m0 m1 m2 m3 s0 s1 s2 t0 t1 t2 t3 z0 z1 z2 f0 f1 f2 c0 c1 c2 o0 o1 o2 o3 k0 k1 k2 j0 j1 j2 j3
    obtain ⟨WE, hWE⟩ : ∃ WE, WE = (((w5.setCell ⟨w.heap.size + 1 + 1, 0, none⟩ (.int .i64 r0)).setCell ⟨w.heap.size + 1 + 1, 1, none⟩ (.slice kp2 nk kc2)).setCell ⟨w.heap.size + 1 + 1, 2, none⟩ (.slice vp2 nv vc2)) := ⟨_, rfl⟩
    have KE : Blk WE (w.heap.size + 1 + 1) 24 #[.int .i64 r0, .slice kp2 nk kc2, .slice vp2 nv vc2] := by rw [hWE]; exact K4.put3 _ _ _
    have hbE : Below w.heap.size w WE := by rw [hWE]; exact below_set3 HB5.out hs3 _ _ _
    have N1 := Lib.hid (show Nums WE kp2 kc2 r.1.keys from by rw [hWE]; exact HQK.out.far3 _ _ _ _ (fun h b off e => by
      rcases HPK.out with ⟨h1, h2⟩ | h1
      · rw [h2] at h; have := HKL.out h b off (h1 ▸ e); omega
      · have := h1 b off e; omega))
    have N2 := Lib.hid (show Nums WE vp2 vc2 r.1.vals from by rw [hWE]; exact HQV.out.far3 _ _ _ _ (fun h b off e => by
      rcases HPV.out with ⟨h1, h2⟩ | h1
      · rw [h2] at h; have := HVL.out h b off (h1 ▸ e); omega
      · have := h1 b off e; omega))
    have e0 : WE.cell? ⟨w.heap.size + 1 + 1, 0, none⟩ = some (.int .i64 r0) := KE.cell 0
    have e1 : WE.cell? ⟨w.heap.size + 1 + 1, 1, none⟩ = some (.slice kp2 nk kc2) := KE.cell 1
    have e2 : WE.cell? ⟨w.heap.size + 1 + 1, 2, none⟩ = some (.slice vp2 nv vc2) := KE.cell 2
    have HBE := Lib.hid hbE
    rw [← hWE]
    clear hWE KE hbE
    exact bodyPost_ret (v := .tuple #[.agg #[.int .i64 r0, .slice kp2 nk kc2, .slice vp2 nv vc2], .int .i64 rv, .bool rb]) (by simp [results, Try.results11, go_sem, e0, e1, e2]) rfl (DoPost.mk r0 nk nv rv rb kp2 kc2 vp2 vc2 R0.out NK.out NV.out RV.out RB.out rfl N1.out N2.out HBE.out
      (HPK.out.imp id fun h b off e => by have := h b off e; omega) (HPV.out.imp id fun h b off e => by have := h b off e; omega))
  · have hrr : firstC c = r := by rw [← hr]; rfl
    have HCTP := Lib.hid fun wx (hx : Below W.heap.size W wx) => first_any c ⟨7, oo, oa, ob⟩ kn vn H1.out H2.out kp vp kc vc wx (HK.out.later hx) (HV.out.later hx) l1 l2
    rw [hrr] at HCTP
    clear hr hrr
    have lk1 := K1.lt
    have lk2 := K2.lt
    have cy0 : ∀ y : After W, y.w.cell? ⟨w.heap.size, 0, none⟩ = some (.int .i64 c.kind) := fun y => (y.cell lk1).trans (K1.cell 0)
    have cy1 : ∀ y : After W, y.w.cell? ⟨w.heap.size, 1, none⟩ = some (.slice kp kn kc) := fun y => (y.cell lk1).trans (K1.cell 1)
    have cy2 : ∀ y : After W, y.w.cell? ⟨w.heap.size, 2, none⟩ = some (.slice vp vn vc) := fun y => (y.cell lk1).trans (K1.cell 2)
    have oy0 : ∀ y : After W, y.w.cell? ⟨w.heap.size + 1, 0, none⟩ = some (.int .i64 7) := fun y => (y.cell lk2).trans (K2.cell 0)
    have oy1 : ∀ y : After W, y.w.cell? ⟨w.heap.size + 1, 1, none⟩ = some (.int .i64 oo) := fun y => (y.cell lk2).trans (K2.cell 1)
    have oy2 : ∀ y : After W, y.w.cell? ⟨w.heap.size + 1, 2, none⟩ = some (.int .i64 oa) := fun y => (y.cell lk2).trans (K2.cell 2)
    have oy3 : ∀ y : After W, y.w.cell? ⟨w.heap.size + 1, 3, none⟩ = some (.int .i64 ob) := fun y => (y.cell lk2).trans (K2.cell 3)
    go_enter Try.func11, Try.ntmps11
    go_wp2_with fail
    rw [← HW.out]
    refine wp_region_after (by kernel_rfl) (by kernel_rfl) ?_
    repeat (go_big_quiet_step (first
      | (go_at_call 14; exact calls_after_same ((of_kind _ _).mono fun _ _ ⟨h1, h2⟩ => ⟨by rw [h1, HOK.out], h2.symm⟩))
      | (go_at_call 10; exact calls_after (HRT.out _))))
    refine wpQuiet_nil ?_
    rintro _ ⟨y, rfl⟩
    obtain ⟨X, hX⟩ : ∃ X, X = y.w := ⟨_, rfl⟩
    have hb := y.bel
    rw [← hX] at hb
    rw [← hX]
    have HBWX := Lib.hid hb
    have K1x := K1.later hb
    have K2x := K2.later hb
    have K3x := K3.later hb
    have HKX := Lib.hid (HK.out.later hb)
    have HVX := Lib.hid (HV.out.later hb)
    have HBX := Lib.hid (HB.out.trans (hb.mono HB.out.size))
    clear K1 K2 K3 hX hb y cy0 cy1 cy2 oy0 oy1 oy2 oy3 lk1 lk2
    have K1 := K1x
    have K2 := K2x
    have K3 := K3x
    clear K1x K2x K3x
    have HCTQ := Lib.hid fun wx (hx : Below X.heap.size X wx) => HCTP.out wx (HBWX.out.trans (hx.mono HBWX.out.size))
    have c0 : X.cell? ⟨w.heap.size, 0, none⟩ = some (.int .i64 c.kind) := K1.cell 0
    have c1 : X.cell? ⟨w.heap.size, 1, none⟩ = some (.slice kp kn kc) := K1.cell 1
    have c2 : X.cell? ⟨w.heap.size, 2, none⟩ = some (.slice vp vn vc) := K1.cell 2
    have o0 : X.cell? ⟨w.heap.size + 1, 0, none⟩ = some (.int .i64 7) := K2.cell 0
    have o1 : X.cell? ⟨w.heap.size + 1, 1, none⟩ = some (.int .i64 oo) := K2.cell 1
    have o2 : X.cell? ⟨w.heap.size + 1, 2, none⟩ = some (.int .i64 oa) := K2.cell 2
    have o3 : X.cell? ⟨w.heap.size + 1, 3, none⟩ = some (.int .i64 ob) := K2.cell 3
    have lk1 := K1.lt
    have lk2 := K2.lt
    have lk3 := K3.lt
    have hix := idx7
    have HCT := Lib.hid fun wx (hx : Below X.heap.size X wx) => (show Calls Try.prog 25 #[.agg #[.int .i64 c.kind, .slice kp kn kc, .slice vp vn vc], .agg #[.int .i64 7, .int .i64 oo, .int .i64 oa, .int .i64 ob]] wx (DoPost wx c kp vp r) from HCTQ.out wx hx)
    go_wp2_with fail
    go_region_held3 (fun w' => w'.cell? ⟨w.heap.size, 0, none⟩ = some (.int .i64 c.kind) ∧ w'.cell? ⟨w.heap.size, 1, none⟩ = some (.slice kp kn kc) ∧ w'.cell? ⟨w.heap.size, 2, none⟩ = some (.slice vp vn vc) ∧
        w'.cell? ⟨w.heap.size + 1, 0, none⟩ = some (.int .i64 7) ∧ w'.cell? ⟨w.heap.size + 1, 1, none⟩ = some (.int .i64 oo) ∧ w'.cell? ⟨w.heap.size + 1, 2, none⟩ = some (.int .i64 oa) ∧ w'.cell? ⟨w.heap.size + 1, 3, none⟩ = some (.int .i64 ob))
      (first
        | exact ⟨c0, c1, c2, o0, o1, o2, o3⟩
        | exact ⟨k0, k1, k2, j0, j1, j2, j3⟩
        | exact ⟨l0, l1', l2', m0, m1, m2, m3⟩
        | exact ⟨s0 _ _ _, s1 _ _ _, s2 _ _ _, t0 _ _ _, t1 _ _ _, t2 _ _ _, t3 _ _ _⟩)
      (first
        | (go_at_call 20
           refine (ops_any _).mono ?_
           rintro e w3 ⟨rfl, hb3⟩
           have hb4 : Below X.heap.size X w3 := (Below.refl _ _).drew.trans hb3
           have k0 := (hb4.cell (p := ⟨w.heap.size, 0, none⟩) lk1).trans c0
           have k1 := (hb4.cell (p := ⟨w.heap.size, 1, none⟩) lk1).trans c1
           have k2 := (hb4.cell (p := ⟨w.heap.size, 2, none⟩) lk1).trans c2
           have j0 := (hb4.cell (p := ⟨w.heap.size + 1, 0, none⟩) lk2).trans o0
           have j1 := (hb4.cell (p := ⟨w.heap.size + 1, 1, none⟩) lk2).trans o1
           have j2 := (hb4.cell (p := ⟨w.heap.size + 1, 2, none⟩) lk2).trans o2
           have j3 := (hb4.cell (p := ⟨w.heap.size + 1, 3, none⟩) lk2).trans o3)
        | (go_at_call 25
           refine (HCT.out _ hb4).mono ?_
           rintro e w5 hp5
           obtain ⟨kp2, kc2, vp2, vc2, rfl, hqk, hqv, hb5, hpk, hpv⟩ := hp5.at r0 nk nv rv rb R0.out NK.out NV.out RV.out RB.out
           have hb6 : Below X.heap.size X w5 := hb4.trans (hb5.mono hb4.size)
           have l0 := (hb6.cell (p := ⟨w.heap.size, 0, none⟩) lk1).trans c0
           have l1' := (hb6.cell (p := ⟨w.heap.size, 1, none⟩) lk1).trans c1
           have l2' := (hb6.cell (p := ⟨w.heap.size, 2, none⟩) lk1).trans c2
           have m0 := (hb6.cell (p := ⟨w.heap.size + 1, 0, none⟩) lk2).trans o0
           have m1 := (hb6.cell (p := ⟨w.heap.size + 1, 1, none⟩) lk2).trans o1
           have m2 := (hb6.cell (p := ⟨w.heap.size + 1, 2, none⟩) lk2).trans o2
           have m3 := (hb6.cell (p := ⟨w.heap.size + 1, 3, none⟩) lk2).trans o3
           have s0 : ∀ v0 v1 v2, (((w5.setCell ⟨w.heap.size + 1 + 1, 0, none⟩ v0).setCell ⟨w.heap.size + 1 + 1, 1, none⟩ v1).setCell ⟨w.heap.size + 1 + 1, 2, none⟩ v2).cell? ⟨w.heap.size, 0, none⟩ = some (.int .i64 c.kind) := fun _ _ _ => get_far (get_far (get_far l0 (by intro e; injection e with e; omega)) (by intro e; injection e with e; omega)) (by intro e; injection e with e; omega)
           have s1 : ∀ v0 v1 v2, (((w5.setCell ⟨w.heap.size + 1 + 1, 0, none⟩ v0).setCell ⟨w.heap.size + 1 + 1, 1, none⟩ v1).setCell ⟨w.heap.size + 1 + 1, 2, none⟩ v2).cell? ⟨w.heap.size, 1, none⟩ = some (.slice kp kn kc) := fun _ _ _ => get_far (get_far (get_far l1' (by intro e; injection e with e; omega)) (by intro e; injection e with e; omega)) (by intro e; injection e with e; omega)
           have s2 : ∀ v0 v1 v2, (((w5.setCell ⟨w.heap.size + 1 + 1, 0, none⟩ v0).setCell ⟨w.heap.size + 1 + 1, 1, none⟩ v1).setCell ⟨w.heap.size + 1 + 1, 2, none⟩ v2).cell? ⟨w.heap.size, 2, none⟩ = some (.slice vp vn vc) := fun _ _ _ => get_far (get_far (get_far l2' (by intro e; injection e with e; omega)) (by intro e; injection e with e; omega)) (by intro e; injection e with e; omega)
           have t0 : ∀ v0 v1 v2, (((w5.setCell ⟨w.heap.size + 1 + 1, 0, none⟩ v0).setCell ⟨w.heap.size + 1 + 1, 1, none⟩ v1).setCell ⟨w.heap.size + 1 + 1, 2, none⟩ v2).cell? ⟨w.heap.size + 1, 0, none⟩ = some (.int .i64 7) := fun _ _ _ => get_far (get_far (get_far m0 (by intro e; injection e with e; omega)) (by intro e; injection e with e; omega)) (by intro e; injection e with e; omega)
           have t1 : ∀ v0 v1 v2, (((w5.setCell ⟨w.heap.size + 1 + 1, 0, none⟩ v0).setCell ⟨w.heap.size + 1 + 1, 1, none⟩ v1).setCell ⟨w.heap.size + 1 + 1, 2, none⟩ v2).cell? ⟨w.heap.size + 1, 1, none⟩ = some (.int .i64 oo) := fun _ _ _ => get_far (get_far (get_far m1 (by intro e; injection e with e; omega)) (by intro e; injection e with e; omega)) (by intro e; injection e with e; omega)
           have t2 : ∀ v0 v1 v2, (((w5.setCell ⟨w.heap.size + 1 + 1, 0, none⟩ v0).setCell ⟨w.heap.size + 1 + 1, 1, none⟩ v1).setCell ⟨w.heap.size + 1 + 1, 2, none⟩ v2).cell? ⟨w.heap.size + 1, 2, none⟩ = some (.int .i64 oa) := fun _ _ _ => get_far (get_far (get_far m2 (by intro e; injection e with e; omega)) (by intro e; injection e with e; omega)) (by intro e; injection e with e; omega)
           have t3 : ∀ v0 v1 v2, (((w5.setCell ⟨w.heap.size + 1 + 1, 0, none⟩ v0).setCell ⟨w.heap.size + 1 + 1, 1, none⟩ v1).setCell ⟨w.heap.size + 1 + 1, 2, none⟩ v2).cell? ⟨w.heap.size + 1, 3, none⟩ = some (.int .i64 ob) := fun _ _ _ => get_far (get_far (get_far m3 (by intro e; injection e with e; omega)) (by intro e; injection e with e; omega)) (by intro e; injection e with e; omega)
           have K4 := K3.later hb6
           have z0 : w5.cell? ⟨w.heap.size + 1 + 1, 0, none⟩ = some (.int .i64 0) := K4.cell 0
           have f0 := K4.free 0
           have z1 : w5.cell? ⟨w.heap.size + 1 + 1, 1, none⟩ = some (.slice none 0 0) := K4.cell 1
           have f1 := K4.free 1
           have z2 : w5.cell? ⟨w.heap.size + 1 + 1, 2, none⟩ = some (.slice none 0 0) := K4.cell 2
           have f2 := K4.free 2
           have HB5 := Lib.hid (HBX.out.trans (hb6.mono HBX.out.size))
           have h34 : w.heap.size + 1 + 1 < w3.heap.size := Nat.lt_of_lt_of_le lk3 hb4.size
           have HQK := Lib.hid hqk
           have HQV := Lib.hid hqv
           have HPK := Lib.hid hpk
           have HPV := Lib.hid hpv
           clear hb5 hb6 hqk hqv hpk hpv))
    go_wp2_with fail
    clear l0 l1' l2' m0 m1 m2 m3 s0 s1 s2 t0 t1 t2 t3 z0 z1 z2 f0 f1 f2 c0 c1 c2 o0 o1 o2 o3 k0 k1 k2 j0 j1 j2 j3
    obtain ⟨WE, hWE⟩ : ∃ WE, WE = (((w5.setCell ⟨w.heap.size + 1 + 1, 0, none⟩ (.int .i64 r0)).setCell ⟨w.heap.size + 1 + 1, 1, none⟩ (.slice kp2 nk kc2)).setCell ⟨w.heap.size + 1 + 1, 2, none⟩ (.slice vp2 nv vc2)) := ⟨_, rfl⟩
    have KE : Blk WE (w.heap.size + 1 + 1) 24 #[.int .i64 r0, .slice kp2 nk kc2, .slice vp2 nv vc2] := by rw [hWE]; exact K4.put3 _ _ _
    have hbE : Below w.heap.size w WE := by rw [hWE]; exact below_set3 HB5.out hs3 _ _ _
    have N1 := Lib.hid (show Nums WE kp2 kc2 r.1.keys from by rw [hWE]; exact HQK.out.far3 _ _ _ _ (fun h b off e => by
      rcases HPK.out with ⟨h1, h2⟩ | h1
      · rw [h2] at h; have := HKL.out h b off (h1 ▸ e); omega
      · have := h1 b off e; omega))
    have N2 := Lib.hid (show Nums WE vp2 vc2 r.1.vals from by rw [hWE]; exact HQV.out.far3 _ _ _ _ (fun h b off e => by
      rcases HPV.out with ⟨h1, h2⟩ | h1
      · rw [h2] at h; have := HVL.out h b off (h1 ▸ e); omega
      · have := h1 b off e; omega))
    have e0 : WE.cell? ⟨w.heap.size + 1 + 1, 0, none⟩ = some (.int .i64 r0) := KE.cell 0
    have e1 : WE.cell? ⟨w.heap.size + 1 + 1, 1, none⟩ = some (.slice kp2 nk kc2) := KE.cell 1
    have e2 : WE.cell? ⟨w.heap.size + 1 + 1, 2, none⟩ = some (.slice vp2 nv vc2) := KE.cell 2
    have HBE := Lib.hid hbE
    rw [← hWE]
    clear hWE KE hbE
    exact bodyPost_ret (v := .tuple #[.agg #[.int .i64 r0, .slice kp2 nk kc2, .slice vp2 nv vc2], .int .i64 rv, .bool rb]) (by simp [results, Try.results11, go_sem, e0, e1, e2]) rfl (DoPost.mk r0 nk nv rv rb kp2 kc2 vp2 vc2 R0.out NK.out NV.out RV.out RB.out rfl N1.out N2.out HBE.out
      (HPK.out.imp id fun h b off e => by have := h b off e; omega) (HPV.out.imp id fun h b off e => by have := h b off e; omega))
end Go.Proofs.Ythbpoagkfpalfaa
