/-
  SPEC: first.
-/
import Derived.Test.YthbpoagkfpalfaaRows
import Derived.ProofKit
import Derived.Deep.QuietTactic
import Derived.BigQuiet
import Derived.LoopTactic
import Derived.Test.YthbpoagkfpalfaaSpecD
import Derived.Deep.RegionHeld3
namespace Go.Proofs.Ythbpoagkfpalfaa
open Go.ChangeShapes Go.WideShapes Go.ChangeAt Go.RowKit

set_option maxRecDepth 100000 in
set_option maxHeartbeats 4000000 in
theorem first_any (c : ContV) (o : OpV) (kn vn : Nat) (h1 : c.keys.length = kn) (h2 : c.vals.length = vn) (kp vp : Option Addr) (kc vc : Nat) (w : World) (a1 : Nums w kp kc c.keys) (a2 : Nums w vp vc c.vals) (l1 : kn ≤ 40000) (l2 : vn ≤ 40000) :
    Calls Try.prog 25 #[.agg #[.int .i64 c.kind, .slice kp kn kc, .slice vp vn vc], .agg #[.int .i64 o.kind, .int .i64 o.obj, .int .i64 o.a, .int .i64 o.b]] w (DoPost w c kp vp (firstC c)) := by
  obtain ⟨W, hW⟩ : ∃ W, W = ((w.alloc (Obj.cells #[.int .i64 c.kind, .slice kp kn kc, .slice vp vn vc] 24)).alloc (Obj.cells #[.int .i64 o.kind, .int .i64 o.obj, .int .i64 o.a, .int .i64 o.b] 26)).alloc (Obj.cells #[.int .i64 0, .slice none 0 0, .slice none 0 0] 24) := ⟨_, rfl⟩
  have hbW : Below w.heap.size w W := by rw [hW]; exact below_alloc3 w _ _ _
  have K1 : Blk W w.heap.size 24 #[.int .i64 c.kind, .slice kp kn kc, .slice vp vn vc] := by rw [hW]; exact ((Blk.made w _ _).alloc _).alloc _
  have K2 : Blk W (w.heap.size + 1) 26 #[.int .i64 o.kind, .int .i64 o.obj, .int .i64 o.a, .int .i64 o.b] := by rw [hW]; exact (Blk.made1 w _ _ _).alloc _
  have K3 : Blk W (w.heap.size + 1 + 1) 24 #[.int .i64 0, .slice none 0 0, .slice none 0 0] := by rw [hW]; exact Blk.made2 w _ _ _ _
  have HW := Lib.hid hW
  have HB := Lib.hid hbW
  have HK := Lib.hid (a1.later hbW)
  have HV := Lib.hid (a2.later hbW)
  have H1 := Lib.hid h1
  have H2 := Lib.hid h2
  have hs3 : w.heap.size ≤ w.heap.size + 1 + 1 := by omega
  have HKL := Lib.hid fun h b off e => a1.below h b off e
  have HVL := Lib.hid fun h b off e => a2.below h b off e
  have A1 := Lib.hid a1
  have A2 := Lib.hid a2
  clear hW hbW a1 a2 h1 h2
  obtain ⟨r, hr⟩ : ∃ r, firstC c = r := ⟨_, rfl⟩
  rw [hr]
  unfold firstC at hr
  have HKX := HK
  have HVX := HV
  have HBX := HB
  by_cases hv0 : vn = 0
  · rw [if_pos (by rw [H2.out]; exact hv0)] at hr
    have HR := Lib.hid hr.symm
    have e9 : ((vn : Int) == 0) = true := by simp; exact hv0
    clear hr hv0
    have c0 : W.cell? ⟨w.heap.size, 0, none⟩ = some (.int .i64 c.kind) := K1.cell 0
    have c1 : W.cell? ⟨w.heap.size, 1, none⟩ = some (.slice kp kn kc) := K1.cell 1
    have c2 : W.cell? ⟨w.heap.size, 2, none⟩ = some (.slice vp vn vc) := K1.cell 2
    have o0 : W.cell? ⟨w.heap.size + 1, 0, none⟩ = some (.int .i64 o.kind) := K2.cell 0
    have o1 : W.cell? ⟨w.heap.size + 1, 1, none⟩ = some (.int .i64 o.obj) := K2.cell 1
    have o2 : W.cell? ⟨w.heap.size + 1, 2, none⟩ = some (.int .i64 o.a) := K2.cell 2
    have o3 : W.cell? ⟨w.heap.size + 1, 3, none⟩ = some (.int .i64 o.b) := K2.cell 3
    have z0 : W.cell? ⟨w.heap.size + 1 + 1, 0, none⟩ = some (.int .i64 0) := K3.cell 0
    have f0 := K3.free 0
    have z1 : W.cell? ⟨w.heap.size + 1 + 1, 1, none⟩ = some (.slice none 0 0) := K3.cell 1
    have f1 := K3.free 1
    have z2 : W.cell? ⟨w.heap.size + 1 + 1, 2, none⟩ = some (.slice none 0 0) := K3.cell 2
    have f2 := K3.free 2
    go_enter Try.func25, Try.ntmps25
    go_wp2_with fail
    obtain ⟨WE, hWE⟩ : ∃ WE, WE = ((w.alloc (Obj.cells #[.int .i64 c.kind, .slice kp kn kc, .slice vp vn vc] 24)).alloc (Obj.cells #[.int .i64 o.kind, .int .i64 o.obj, .int .i64 o.a, .int .i64 o.b] 26)).alloc (Obj.cells #[.int .i64 c.kind, .slice kp kn kc, .slice vp vn vc] 24) := ⟨_, rfl⟩
    have KE : Blk WE (w.heap.size + 1 + 1) 24 #[.int .i64 c.kind, .slice kp kn kc, .slice vp vn vc] := by rw [hWE]; exact Blk.made2 w _ _ _ _
    have hbE : Below w.heap.size w WE := by rw [hWE]; exact below_alloc3 w _ _ _
    have N1 := Lib.hid (A1.out.later hbE)
    have N2 := Lib.hid (A2.out.later hbE)
    have g0 : WE.cell? ⟨w.heap.size + 1 + 1, 0, none⟩ = some (.int .i64 c.kind) := KE.cell 0
    have g1 : WE.cell? ⟨w.heap.size + 1 + 1, 1, none⟩ = some (.slice kp kn kc) := KE.cell 1
    have g2 : WE.cell? ⟨w.heap.size + 1 + 1, 2, none⟩ = some (.slice vp vn vc) := KE.cell 2
    have HBE := Lib.hid hbE
    rw [← hWE]
    clear hWE KE hbE c0 c1 c2 o0 o1 o2 o3 z0 z1 z2 f0 f1 f2 e9
    exact bodyPost_ret (v := .tuple #[.agg #[.int .i64 c.kind, .slice kp kn kc, .slice vp vn vc], .int .i64 0, .bool false]) (by simp [results, Try.results25, go_sem, g0, g1, g2]) rfl (DoPost.mk (c.kind) kn vn (0) false kp kc vp vc (by rw [HR.out]) (by rw [HR.out]; exact H1.out) (by rw [HR.out]; exact H2.out) (by rw [HR.out]) (by rw [HR.out]) rfl (by rw [HR.out]; exact N1.out) (by rw [HR.out]; exact N2.out) HBE.out (.inl ⟨rfl, by rw [HR.out]⟩) (.inl ⟨rfl, by rw [HR.out]⟩))
  · rw [if_neg (by rw [H2.out]; exact hv0)] at hr
    have e9 : ((vn : Int) == 0) = false := by simp; exact hv0
    have hvp : 0 < vn := by omega
    obtain ⟨b, off, hp, hlb, g0⟩ := HV.out.at_ 0 (by rw [H2.out]; exact hvp)
    obtain ⟨v, hv⟩ : ∃ v, c.vals[0]'(by rw [H2.out]; exact hvp) = v := ⟨_, rfl⟩
    have hgd : c.vals.getD 0 0 = v := by rw [List.getD_eq_getElem?_getD, List.getElem?_eq_getElem (by rw [H2.out]; exact hvp), hv]; rfl
    rw [hv] at g0
    rw [hgd] at hr
    obtain ⟨L, hL⟩ : ∃ L, c.vals.drop 1 = L := ⟨_, rfl⟩
    obtain ⟨nL, hnL⟩ : ∃ n, L.length = n := ⟨_, rfl⟩
    rw [hL] at hr
    have HR := Lib.hid hr.symm
    have HCT := Lib.hid fun wx (hx : Below W.heap.size W wx) => (show Calls Try.prog 29 #[.slice vp vn vc, .int .i64 0] wx (NumsPost wx L) from by
      have := without_any c.vals vn H2.out vp vc 0 wx (HV.out.later hx) (by omega) (by omega)
      rw [← hL]
      simpa using this)
    have HNL := Lib.hid hnL
    have hbw : b < w.heap.size := HVL.out (by rw [H2.out]; exact hvp) b off hp
    have hbne : b ≠ w.heap.size + 1 + 1 := by omega
    rw [Nat.add_zero] at g0
    have lk1 := K1.lt
    have lk3 := K3.lt
    have c0 : W.cell? ⟨w.heap.size, 0, none⟩ = some (.int .i64 c.kind) := K1.cell 0
    have c1 : W.cell? ⟨w.heap.size, 1, none⟩ = some (.slice kp kn kc) := K1.cell 1
    have c2 : W.cell? ⟨w.heap.size, 2, none⟩ = some (.slice vp vn vc) := K1.cell 2
    have o0 : W.cell? ⟨w.heap.size + 1, 0, none⟩ = some (.int .i64 o.kind) := K2.cell 0
    have o1 : W.cell? ⟨w.heap.size + 1, 1, none⟩ = some (.int .i64 o.obj) := K2.cell 1
    have o2 : W.cell? ⟨w.heap.size + 1, 2, none⟩ = some (.int .i64 o.a) := K2.cell 2
    have o3 : W.cell? ⟨w.heap.size + 1, 3, none⟩ = some (.int .i64 o.b) := K2.cell 3
    clear hr hv hgd hL hnL hv0
    subst hp
    go_enter Try.func25, Try.ntmps25
    go_wp2_with fail
    rw [← HW.out]
    go_region_held3 (fun w' => w'.cell? ⟨w.heap.size, 0, none⟩ = some (.int .i64 c.kind) ∧ w'.cell? ⟨w.heap.size, 2, none⟩ = some (.slice (some ⟨b, off, none⟩) vn vc) ∧ w'.cell? ⟨b, off, none⟩ = some (.int .i64 v))
      (first
        | exact ⟨c0, c2, g0⟩
        | exact ⟨k0, k2, kg⟩
        | exact ⟨s0 _ _ _, s2 _ _ _, sg _ _ _⟩)
      (first
        | (go_at_call 29
           refine (HCT.out _ ?_).mono ?_
           · exact (Below.refl _ _).drew
           rintro e w3 ⟨q9, c9, he, hq9, hb3, hlow3⟩
           rw [HNL.out] at he
           subst he
           have hb4 : Below W.heap.size W w3 := (Below.refl _ _).drew.trans hb3
           have k0 : w3.cell? ⟨w.heap.size, 0, none⟩ = some (.int .i64 c.kind) := (hb4.cell (p := ⟨_, _, none⟩) lk1).trans c0
           have k2 : w3.cell? ⟨w.heap.size, 2, none⟩ = some (.slice (some ⟨b, off, none⟩) vn vc) := (hb4.cell (p := ⟨_, _, none⟩) lk1).trans c2
           have kg : w3.cell? ⟨b, off, none⟩ = some (.int .i64 v) := (hb4.cell (p := ⟨_, _, none⟩) hlb).trans g0
           have s0 : ∀ v0 v1 v2, (((w3.setCell ⟨w.heap.size + 1 + 1, 0, none⟩ v0).setCell ⟨w.heap.size + 1 + 1, 1, none⟩ v1).setCell ⟨w.heap.size + 1 + 1, 2, none⟩ v2).cell? ⟨w.heap.size, 0, none⟩ = some (.int .i64 c.kind) := fun _ _ _ => get_far (get_far (get_far k0 (by intro e; injection e with e; omega)) (by intro e; injection e with e; omega)) (by intro e; injection e with e; omega)
           have s2 : ∀ v0 v1 v2, (((w3.setCell ⟨w.heap.size + 1 + 1, 0, none⟩ v0).setCell ⟨w.heap.size + 1 + 1, 1, none⟩ v1).setCell ⟨w.heap.size + 1 + 1, 2, none⟩ v2).cell? ⟨w.heap.size, 2, none⟩ = some (.slice (some ⟨b, off, none⟩) vn vc) := fun _ _ _ => get_far (get_far (get_far k2 (by intro e; injection e with e; omega)) (by intro e; injection e with e; omega)) (by intro e; injection e with e; omega)
           have sg : ∀ v0 v1 v2, (((w3.setCell ⟨w.heap.size + 1 + 1, 0, none⟩ v0).setCell ⟨w.heap.size + 1 + 1, 1, none⟩ v1).setCell ⟨w.heap.size + 1 + 1, 2, none⟩ v2).cell? ⟨b, off, none⟩ = some (.int .i64 v) := fun _ _ _ => get_far (get_far (get_far kg (by intro e; injection e with e; omega)) (by intro e; injection e with e; omega)) (by intro e; injection e with e; omega)
           have K4 := K3.later hb4
           have z0 : w3.cell? ⟨w.heap.size + 1 + 1, 0, none⟩ = some (.int .i64 0) := K4.cell 0
           have f0 := K4.free 0
           have z1 : w3.cell? ⟨w.heap.size + 1 + 1, 1, none⟩ = some (.slice none 0 0) := K4.cell 1
           have f1 := K4.free 1
           have z2 : w3.cell? ⟨w.heap.size + 1 + 1, 2, none⟩ = some (.slice none 0 0) := K4.cell 2
           have f2 := K4.free 2
           have HB3 := Lib.hid hb4
           have HQ9 := Lib.hid hq9
           have HLO := Lib.hid hlow3
           clear hb3 hb4 hq9 hlow3))
    go_wp2_with fail
    have HBX := Lib.hid (HB.out.trans (HB3.out.mono HB.out.size))
    have K3 := K4
    clear K4 k0 k2 kg s0 s2 sg z0 z1 z2 f0 f1 f2 c0 c1 c2 o0 o1 o2 o3 g0 e9
    obtain ⟨WE, hWE⟩ : ∃ WE, WE = (((w3.setCell ⟨w.heap.size + 1 + 1, 0, none⟩ (.int .i64 c.kind)).setCell ⟨w.heap.size + 1 + 1, 1, none⟩ (.slice none 0 0)).setCell ⟨w.heap.size + 1 + 1, 2, none⟩ (.slice q9 nL c9)) := ⟨_, rfl⟩
    have KE : Blk WE (w.heap.size + 1 + 1) 24 #[.int .i64 c.kind, .slice none 0 0, .slice q9 nL c9] := by rw [hWE]; exact K3.put3 _ _ _
    have hbE : Below w.heap.size w WE := by rw [hWE]; exact below_set3 HBX.out hs3 _ _ _
    have N1 := Lib.hid (show Nums WE none 0 [] from by rw [hWE]; exact Nums.nix _)
    have N2 := Lib.hid (show Nums WE q9 c9 L from by rw [hWE]; exact HQ9.out.far3 _ _ _ _ (fun _ b off e => by have := HLO.out b off e; simp at this; omega))
    have e0 : WE.cell? ⟨w.heap.size + 1 + 1, 0, none⟩ = some (.int .i64 c.kind) := KE.cell 0
    have e1 : WE.cell? ⟨w.heap.size + 1 + 1, 1, none⟩ = some (.slice none 0 0) := KE.cell 1
    have e2 : WE.cell? ⟨w.heap.size + 1 + 1, 2, none⟩ = some (.slice q9 nL c9) := KE.cell 2
    have HBE := Lib.hid hbE
    rw [← hWE]
    clear hWE KE hbE
    exact bodyPost_ret (v := .tuple #[.agg #[.int .i64 c.kind, .slice none 0 0, .slice q9 nL c9], .int .i64 v, .bool true]) (by simp [results, Try.results25, go_sem, e0, e1, e2]) rfl (DoPost.mk (c.kind) 0 nL (v) true none 0 _ _ (by rw [HR.out]) (by rw [HR.out]; exact rfl) (by rw [HR.out]; exact HNL.out) (by rw [HR.out]) (by rw [HR.out]) rfl (by rw [HR.out]; exact N1.out) (by rw [HR.out]; exact N2.out) HBE.out (.inr fun _ _ e => by cases e) (.inr fun b off e => by have := HLO.out b off e; simp at this; omega))
end Go.Proofs.Ythbpoagkfpalfaa
