/-
  SPEC: what operations do: get, put, del, push, first, send.
-/
import Derived.Test.YthbpoagkfpalfaaRows
import Derived.ProofKit
import Derived.Deep.QuietTactic
import Derived.BigQuiet
import Derived.LoopTactic
import Derived.Test.YthbpoagkfpalfaaSpecC
namespace Go.Proofs.Ythbpoagkfpalfaa
open Go.ChangeShapes Go.WideShapes Go.ChangeAt Go.RowKit

theorem Blk.put3 {X : World} {g : Nat} {t : TypeId} {z0 z1 z2 : Value} (h : Blk X g t #[z0, z1, z2]) (v0 v1 v2 : Value) : Blk (((X.setCell ⟨g, 0, none⟩ v0).setCell ⟨g, 1, none⟩ v1).setCell ⟨g, 2, none⟩ v2) g t #[v0, v1, v2] :=
  ((h.put 0 v0).put 1 v1).put 2 v2
theorem Nums.far3 {w : World} {p : Option Addr} {cap : Nat} {xs : List Int} (h : Nums w p cap xs) (g : Nat) (v0 v1 v2 : Value) (hne : 0 < xs.length → ∀ b off, p = some ⟨b, off, none⟩ → b ≠ g) : Nums (((w.setCell ⟨g, 0, none⟩ v0).setCell ⟨g, 1, none⟩ v1).setCell ⟨g, 2, none⟩ v2) p cap xs :=
  ((h.far g 0 v0 hne).far g 1 v1 hne).far g 2 v2 hne
theorem Nums.drew {w : World} {p : Option Addr} {cap : Nat} {xs : List Int} (h : Nums w p cap xs) : Nums w.drew p cap xs := ⟨⟨h.cells.at_⟩, h.le, h.big, h.nil⟩
theorem below_set3 {w X : World} {g : Nat} (h : Below w.heap.size w X) (hg : w.heap.size ≤ g) (v0 v1 v2 : Value) : Below w.heap.size w (((X.setCell ⟨g, 0, none⟩ v0).setCell ⟨g, 1, none⟩ v1).setCell ⟨g, 2, none⟩ v2) :=
  ((h.setCell (p := ⟨g, 0, none⟩) hg v0).setCell (p := ⟨g, 1, none⟩) hg v1).setCell (p := ⟨g, 2, none⟩) hg v2

/-- what an operation hands out -/
def DoPost (w : World) (c : ContV) (kp0 vp0 : Option Addr) (r : ContV × Int × Bool) (e : Ending) (w' : World) : Prop := ∃ kp kc vp vc,
  e = .returned (.tuple #[.agg #[.int .i64 r.1.kind, .slice kp r.1.keys.length kc, .slice vp r.1.vals.length vc], .int .i64 r.2.1, .bool r.2.2]) ∧ Nums w' kp kc r.1.keys ∧ Nums w' vp vc r.1.vals ∧ Below w.heap.size w w' ∧
  ((kp = kp0 ∧ r.1.keys = c.keys) ∨ ∀ b off, kp = some ⟨b, off, none⟩ → w.heap.size ≤ b) ∧ ((vp = vp0 ∧ r.1.vals = c.vals) ∨ ∀ b off, vp = some ⟨b, off, none⟩ → w.heap.size ≤ b)
theorem DoPost.mk {w w' : World} {c : ContV} {kp0 vp0 : Option Addr} {r : ContV × Int × Bool} {e : Ending} (k : Int) (kn vn : Nat) (v : Int) (b : Bool) (kp kc vp vc) (hk : r.1.kind = k) (h1 : r.1.keys.length = kn) (h2 : r.1.vals.length = vn) (hv : r.2.1 = v) (hb : r.2.2 = b)
    (he : e = .returned (.tuple #[.agg #[.int .i64 k, .slice kp kn kc, .slice vp vn vc], .int .i64 v, .bool b])) (a1 : Nums w' kp kc r.1.keys) (a2 : Nums w' vp vc r.1.vals) (hB : Below w.heap.size w w')
    (p1 : (kp = kp0 ∧ r.1.keys = c.keys) ∨ ∀ b off, kp = some ⟨b, off, none⟩ → w.heap.size ≤ b) (p2 : (vp = vp0 ∧ r.1.vals = c.vals) ∨ ∀ b off, vp = some ⟨b, off, none⟩ → w.heap.size ≤ b) : DoPost w c kp0 vp0 r e w' := by
  subst hk; subst h1; subst h2; subst hv; subst hb
  exact ⟨kp, kc, vp, vc, he, a1, a2, hB, p1, p2⟩
theorem DoPost.at {w w' : World} {c : ContV} {kp0 vp0 : Option Addr} {r : ContV × Int × Bool} {e : Ending} (h : DoPost w c kp0 vp0 r e w') (k : Int) (kn vn : Nat) (v : Int) (b : Bool) (hk : r.1.kind = k) (h1 : r.1.keys.length = kn) (h2 : r.1.vals.length = vn) (hv : r.2.1 = v) (hb : r.2.2 = b) :
    ∃ kp kc vp vc, e = .returned (.tuple #[.agg #[.int .i64 k, .slice kp kn kc, .slice vp vn vc], .int .i64 v, .bool b]) ∧ Nums w' kp kc r.1.keys ∧ Nums w' vp vc r.1.vals ∧ Below w.heap.size w w' ∧
  ((kp = kp0 ∧ r.1.keys = c.keys) ∨ ∀ b off, kp = some ⟨b, off, none⟩ → w.heap.size ≤ b) ∧ ((vp = vp0 ∧ r.1.vals = c.vals) ∨ ∀ b off, vp = some ⟨b, off, none⟩ → w.heap.size ≤ b) := by
  subst hk; subst h1; subst h2; subst hv; subst hb
  exact h

/-- what operations make of a content that may be -/
def getC (c : ContV) (o : OpV) : ContV × Int × Bool := if isP c.keys o.a = true then (c, c.vals.getD (lbP c.keys o.a) 0, true) else (c, 0, false)
def putC (c : ContV) (o : OpV) : ContV × Int × Bool := if isP c.keys o.a = true then (c, 0, false) else
  (⟨c.kind, c.keys.take (lbP c.keys o.a) ++ o.a :: c.keys.drop (lbP c.keys o.a), c.vals.take (lbP c.keys o.a) ++ o.b :: c.vals.drop (lbP c.keys o.a)⟩, 0, true)
def delC (c : ContV) (o : OpV) : ContV × Int × Bool := if isP c.keys o.a = true then
  (⟨c.kind, c.keys.take (lbP c.keys o.a) ++ c.keys.drop (lbP c.keys o.a + 1), c.vals.take (lbP c.keys o.a) ++ c.vals.drop (lbP c.keys o.a + 1)⟩, 0, true) else (c, 0, false)
def pushC (c : ContV) (o : OpV) : ContV × Int × Bool := (⟨c.kind, [], o.a :: c.vals⟩, 0, true)
def sendC (c : ContV) (o : OpV) : ContV × Int × Bool := (⟨c.kind, [], c.vals ++ [o.a]⟩, 0, true)
def firstC (c : ContV) : ContV × Int × Bool := if c.vals.length = 0 then (c, 0, false) else (⟨c.kind, [], c.vals.drop 1⟩, c.vals.getD 0 0, true)

theorem lb_lt {l : List Int} {x : Int} (h : isP l x = true) : lbP l x < l.length := by
  unfold isP at h
  rcases Nat.lt_or_ge (lbP l x) l.length with h1 | h1
  · exact h1
  · rw [List.getElem?_eq_none h1] at h; cases h
theorem lb_le (l : List Int) (x : Int) : lbP l x ≤ l.length := by unfold lbP; exact (List.takeWhile_prefix _).length_le

set_option maxRecDepth 100000 in
set_option maxHeartbeats 4000000 in
theorem get_any (c : ContV) (o : OpV) (kn vn : Nat) (h1 : c.keys.length = kn) (h2 : c.vals.length = vn) (kp vp : Option Addr) (kc vc : Nat) (w : World) (a1 : Nums w kp kc c.keys) (a2 : Nums w vp vc c.vals) (l1 : kn ≤ 40000) (l2 : vn ≤ 40000) (hs : c.keys.Pairwise (· < ·)) (hkv : kn = vn) :
    Calls Try.prog 21 #[.agg #[.int .i64 c.kind, .slice kp kn kc, .slice vp vn vc], .agg #[.int .i64 o.kind, .int .i64 o.obj, .int .i64 o.a, .int .i64 o.b]] w (DoPost w c kp vp (getC c o)) := by
  obtain ⟨W, hW⟩ : ∃ W, W = ((w.alloc (Obj.cells #[.int .i64 c.kind, .slice kp kn kc, .slice vp vn vc] 24)).alloc (Obj.cells #[.int .i64 o.kind, .int .i64 o.obj, .int .i64 o.a, .int .i64 o.b] 26)).alloc (Obj.cells #[.int .i64 0, .slice none 0 0, .slice none 0 0] 24) := ⟨_, rfl⟩
  have hbW : Below w.heap.size w W := by rw [hW]; exact below_alloc3 w _ _ _
  have K1 : Blk W w.heap.size 24 #[.int .i64 c.kind, .slice kp kn kc, .slice vp vn vc] := by rw [hW]; exact ((Blk.made w _ _).alloc _).alloc _
  have K2 : Blk W (w.heap.size + 1) 26 #[.int .i64 o.kind, .int .i64 o.obj, .int .i64 o.a, .int .i64 o.b] := by rw [hW]; exact (Blk.made1 w _ _ _).alloc _
  have K3 : Blk W (w.heap.size + 1 + 1) 24 #[.int .i64 0, .slice none 0 0, .slice none 0 0] := by rw [hW]; exact Blk.made2 w _ _ _ _
  have HW := Lib.hid hW
  have HB := Lib.hid hbW
  have HK := Lib.hid (a1.later hbW)
  have HV := Lib.hid (a2.later hbW)
  have H1 := Lib.hid h1
  have H2 := Lib.hid h2
  have hs3 : w.heap.size ≤ w.heap.size + 1 + 1 := by omega
  have HKL := Lib.hid fun h b off e => a1.below h b off e
  have HVL := Lib.hid fun h b off e => a2.below h b off e
  clear hW hbW a1 a2 h1 h2
  have HFI := Lib.hid (find_any c.keys kn H1.out hs kp kc o.a W HK.out (by omega))
  obtain ⟨at_, hat⟩ : ∃ a, lbP c.keys o.a = a := ⟨_, rfl⟩
  have HAT := Lib.hid hat
  have hle : at_ ≤ kn := by rw [← hat, ← H1.out]; exact lb_le _ _
  rw [hat] at HFI
  have d0 : W.cell? ⟨w.heap.size, 0, none⟩ = some (.int .i64 c.kind) := K1.cell 0
  have d1 : W.cell? ⟨w.heap.size, 1, none⟩ = some (.slice kp kn kc) := K1.cell 1
  have d2 : W.cell? ⟨w.heap.size, 2, none⟩ = some (.slice vp vn vc) := K1.cell 2
  have p0 : W.cell? ⟨w.heap.size + 1, 0, none⟩ = some (.int .i64 o.kind) := K2.cell 0
  have p1 : W.cell? ⟨w.heap.size + 1, 1, none⟩ = some (.int .i64 o.obj) := K2.cell 1
  have p2 : W.cell? ⟨w.heap.size + 1, 2, none⟩ = some (.int .i64 o.a) := K2.cell 2
  have p3 : W.cell? ⟨w.heap.size + 1, 3, none⟩ = some (.int .i64 o.b) := K2.cell 3
  obtain ⟨r, hr⟩ : ∃ r, getC c o = r := ⟨_, rfl⟩
  rw [hr]
  unfold getC at hr
  rw [hat] at hr
  have HKV := Lib.hid hkv
  by_cases his : isP c.keys o.a = true
  · have hlt : at_ < kn := by rw [← hat, ← H1.out]; exact lb_lt his
    have havn : at_ < vn := by omega
    rw [if_pos his] at hr
    rw [his] at HFI
    have HR := Lib.hid hr.symm
    clear hat hs his hr hkv
    go_enter Try.func21, Try.ntmps21
    go_wp2_with fail
    rw [← HW.out]
    refine (HFI.out).mono ?_
    rintro e w1 ⟨rfl, d, rfl⟩
    have hKX := HK.out.drawn d
    have hVX := HV.out.drawn d
    have hBX := below_drewN HB.out d
    have hK1 := K1.drawn d
    have hK2 := K2.drawn d
    have hK3 := K3.drawn d
    obtain ⟨X, hX⟩ : ∃ X, X = W.drewN d := ⟨_, rfl⟩
    rw [← hX] at hKX hVX hBX hK1 hK2 hK3
    rw [← hX]
    have HKX := Lib.hid hKX
    have HVX := Lib.hid hVX
    have HBX := Lib.hid hBX
    clear hX K1 K2 K3 hKX hVX hBX d0 d1 d2 p0 p1 p2 p3
    have K1 := hK1
    have K2 := hK2
    have K3 := hK3
    clear hK1 hK2 hK3
    have lk1 := K1.lt
    have lk2 := K2.lt
    have cy0 : ∀ y : After X, y.w.cell? ⟨w.heap.size, 0, none⟩ = some (.int .i64 c.kind) := fun y => (y.cell lk1).trans (K1.cell 0)
    have cy1 : ∀ y : After X, y.w.cell? ⟨w.heap.size, 1, none⟩ = some (.slice kp kn kc) := fun y => (y.cell lk1).trans (K1.cell 1)
    have cy2 : ∀ y : After X, y.w.cell? ⟨w.heap.size, 2, none⟩ = some (.slice vp vn vc) := fun y => (y.cell lk1).trans (K1.cell 2)
    have oy0 : ∀ y : After X, y.w.cell? ⟨w.heap.size + 1, 0, none⟩ = some (.int .i64 o.kind) := fun y => (y.cell lk2).trans (K2.cell 0)
    have oy1 : ∀ y : After X, y.w.cell? ⟨w.heap.size + 1, 1, none⟩ = some (.int .i64 o.obj) := fun y => (y.cell lk2).trans (K2.cell 1)
    have oy2 : ∀ y : After X, y.w.cell? ⟨w.heap.size + 1, 2, none⟩ = some (.int .i64 o.a) := fun y => (y.cell lk2).trans (K2.cell 2)
    have oy3 : ∀ y : After X, y.w.cell? ⟨w.heap.size + 1, 3, none⟩ = some (.int .i64 o.b) := fun y => (y.cell lk2).trans (K2.cell 3)
    have hvl : at_ < c.vals.length := by rw [H2.out]; exact havn
    obtain ⟨b, off, hp, hlb, g0⟩ := HVX.out.at_ at_ hvl
    have gy : ∀ y : After X, y.w.cell? ⟨b, off + at_, none⟩ = some (.int .i64 c.vals[at_]) := fun y => (y.cell hlb).trans g0
    obtain ⟨v, hv⟩ : ∃ v, c.vals[at_] = v := ⟨_, rfl⟩
    have hgd : c.vals.getD at_ 0 = v := by rw [List.getD_eq_getElem?_getD, List.getElem?_eq_getElem hvl, hv]; rfl
    have hr2 := HR.out
    rw [hgd] at hr2
    have HR := Lib.hid hr2
    clear hr2 hgd
    rw [hv] at gy g0
    clear hv
    have c0 : X.cell? ⟨w.heap.size, 0, none⟩ = some (.int .i64 c.kind) := K1.cell 0
    have c1 : X.cell? ⟨w.heap.size, 1, none⟩ = some (.slice kp kn kc) := K1.cell 1
    have c2 : X.cell? ⟨w.heap.size, 2, none⟩ = some (.slice vp vn vc) := K1.cell 2
    have o0 : X.cell? ⟨w.heap.size + 1, 0, none⟩ = some (.int .i64 o.kind) := K2.cell 0
    have o1 : X.cell? ⟨w.heap.size + 1, 1, none⟩ = some (.int .i64 o.obj) := K2.cell 1
    have o2 : X.cell? ⟨w.heap.size + 1, 2, none⟩ = some (.int .i64 o.a) := K2.cell 2
    have o3 : X.cell? ⟨w.heap.size + 1, 3, none⟩ = some (.int .i64 o.b) := K2.cell 3
    have z0 : X.cell? ⟨w.heap.size + 1 + 1, 0, none⟩ = some (.int .i64 0) := K3.cell 0
    have f0 := K3.free 0
    have z1 : X.cell? ⟨w.heap.size + 1 + 1, 1, none⟩ = some (.slice none 0 0) := K3.cell 1
    have f1 := K3.free 1
    have z2 : X.cell? ⟨w.heap.size + 1 + 1, 2, none⟩ = some (.slice none 0 0) := K3.cell 2
    have f2 := K3.free 2
    have hbw : b < w.heap.size := HVL.out (by omega) b off hp
    have hbne : b ≠ w.heap.size + 1 + 1 := by omega
    have gz : ∀ v0 v1 v2, (((X.setCell ⟨w.heap.size + 1 + 1, 0, none⟩ v0).setCell ⟨w.heap.size + 1 + 1, 1, none⟩ v1).setCell ⟨w.heap.size + 1 + 1, 2, none⟩ v2).cell? ⟨b, off + at_, none⟩ = some (.int .i64 v) := fun _ _ _ => get_far (get_far (get_far g0 (by intro e; injection e with e; omega)) (by intro e; injection e with e; omega)) (by intro e; injection e with e; omega)
    subst hp
    go_wp2_with fail
    go_region
    go_wp2_with fail
    clear c0 c1 c2 o0 o1 o2 o3 z0 z1 z2 f0 f1 f2 gz gy cy0 cy1 cy2 oy0 oy1 oy2 oy3
    obtain ⟨WE, hWE⟩ : ∃ WE, WE = (((X.setCell ⟨w.heap.size + 1 + 1, 0, none⟩ (.int .i64 c.kind)).setCell ⟨w.heap.size + 1 + 1, 1, none⟩ (.slice kp kn kc)).setCell ⟨w.heap.size + 1 + 1, 2, none⟩ (.slice (some ⟨b, off, none⟩) vn vc)).drew := ⟨_, rfl⟩
    have KE : Blk WE (w.heap.size + 1 + 1) 24 #[.int .i64 c.kind, .slice kp kn kc, .slice (some ⟨b, off, none⟩) vn vc] := by rw [hWE]; exact K3.put3 _ _ _
    have hbE : Below w.heap.size w WE := by rw [hWE]; exact (below_set3 HBX.out hs3 _ _ _).drew
    have N1 := Lib.hid (show Nums WE kp kc c.keys from by rw [hWE]; exact Nums.drew (HKX.out.far3 _ _ _ _ (fun h b off e => by have := HKL.out h b off e; omega)))
    have N2 := Lib.hid (show Nums WE (some ⟨b, off, none⟩) vc c.vals from by rw [hWE]; exact Nums.drew (HVX.out.far3 _ _ _ _ (fun h b off e => by have := HVL.out h b off e; omega)))
    have e0 : WE.cell? ⟨w.heap.size + 1 + 1, 0, none⟩ = some (.int .i64 c.kind) := KE.cell 0
    have e1 : WE.cell? ⟨w.heap.size + 1 + 1, 1, none⟩ = some (.slice kp kn kc) := KE.cell 1
    have e2 : WE.cell? ⟨w.heap.size + 1 + 1, 2, none⟩ = some (.slice (some ⟨b, off, none⟩) vn vc) := KE.cell 2
    have HBE := Lib.hid hbE
    rw [← hWE]
    clear hWE KE hbE
    exact bodyPost_ret (v := .tuple #[.agg #[.int .i64 c.kind, .slice kp kn kc, .slice (some ⟨b, off, none⟩) vn vc], .int .i64 v, .bool true]) (by simp [results, Try.results21, go_sem, e0, e1, e2]) rfl (DoPost.mk (c.kind) kn vn (v) true kp kc _ vc (by rw [HR.out]) (by rw [HR.out]; exact H1.out) (by rw [HR.out]; exact H2.out) (by rw [HR.out]) (by rw [HR.out]) rfl (by rw [HR.out]; exact N1.out) (by rw [HR.out]; exact N2.out) HBE.out (.inl ⟨rfl, by rw [HR.out]⟩) (.inl ⟨rfl, by rw [HR.out]⟩))
  · have hif : isP c.keys o.a = false := by simpa using his
    have havn : at_ ≤ vn := by omega
    rw [if_neg his] at hr
    rw [hif] at HFI
    have HR := Lib.hid hr.symm
    clear hat hs his hif hr hkv
    go_enter Try.func21, Try.ntmps21
    go_wp2_with fail
    rw [← HW.out]
    refine (HFI.out).mono ?_
    rintro e w1 ⟨rfl, d, rfl⟩
    have hKX := HK.out.drawn d
    have hVX := HV.out.drawn d
    have hBX := below_drewN HB.out d
    have hK1 := K1.drawn d
    have hK2 := K2.drawn d
    have hK3 := K3.drawn d
    obtain ⟨X, hX⟩ : ∃ X, X = W.drewN d := ⟨_, rfl⟩
    rw [← hX] at hKX hVX hBX hK1 hK2 hK3
    rw [← hX]
    have HKX := Lib.hid hKX
    have HVX := Lib.hid hVX
    have HBX := Lib.hid hBX
    clear hX K1 K2 K3 hKX hVX hBX d0 d1 d2 p0 p1 p2 p3
    have K1 := hK1
    have K2 := hK2
    have K3 := hK3
    clear hK1 hK2 hK3
    have c0 : X.cell? ⟨w.heap.size, 0, none⟩ = some (.int .i64 c.kind) := K1.cell 0
    have c1 : X.cell? ⟨w.heap.size, 1, none⟩ = some (.slice kp kn kc) := K1.cell 1
    have c2 : X.cell? ⟨w.heap.size, 2, none⟩ = some (.slice vp vn vc) := K1.cell 2
    have o0 : X.cell? ⟨w.heap.size + 1, 0, none⟩ = some (.int .i64 o.kind) := K2.cell 0
    have o1 : X.cell? ⟨w.heap.size + 1, 1, none⟩ = some (.int .i64 o.obj) := K2.cell 1
    have o2 : X.cell? ⟨w.heap.size + 1, 2, none⟩ = some (.int .i64 o.a) := K2.cell 2
    have o3 : X.cell? ⟨w.heap.size + 1, 3, none⟩ = some (.int .i64 o.b) := K2.cell 3
    have z0 : X.cell? ⟨w.heap.size + 1 + 1, 0, none⟩ = some (.int .i64 0) := K3.cell 0
    have f0 := K3.free 0
    have z1 : X.cell? ⟨w.heap.size + 1 + 1, 1, none⟩ = some (.slice none 0 0) := K3.cell 1
    have f1 := K3.free 1
    have z2 : X.cell? ⟨w.heap.size + 1 + 1, 2, none⟩ = some (.slice none 0 0) := K3.cell 2
    have f2 := K3.free 2
    go_wp2_with fail
    clear c0 c1 c2 o0 o1 o2 o3 z0 z1 z2 f0 f1 f2
    obtain ⟨WE, hWE⟩ : ∃ WE, WE = (((X.setCell ⟨w.heap.size + 1 + 1, 0, none⟩ (.int .i64 c.kind)).setCell ⟨w.heap.size + 1 + 1, 1, none⟩ (.slice kp kn kc)).setCell ⟨w.heap.size + 1 + 1, 2, none⟩ (.slice vp vn vc)) := ⟨_, rfl⟩
    have KE : Blk WE (w.heap.size + 1 + 1) 24 #[.int .i64 c.kind, .slice kp kn kc, .slice vp vn vc] := by rw [hWE]; exact K3.put3 _ _ _
    have hbE : Below w.heap.size w WE := by rw [hWE]; exact below_set3 HBX.out hs3 _ _ _
    have N1 := Lib.hid (show Nums WE kp kc c.keys from by rw [hWE]; exact HKX.out.far3 _ _ _ _ (fun h b off e => by have := HKL.out h b off e; omega))
    have N2 := Lib.hid (show Nums WE vp vc c.vals from by rw [hWE]; exact HVX.out.far3 _ _ _ _ (fun h b off e => by have := HVL.out h b off e; omega))
    have e0 : WE.cell? ⟨w.heap.size + 1 + 1, 0, none⟩ = some (.int .i64 c.kind) := KE.cell 0
    have e1 : WE.cell? ⟨w.heap.size + 1 + 1, 1, none⟩ = some (.slice kp kn kc) := KE.cell 1
    have e2 : WE.cell? ⟨w.heap.size + 1 + 1, 2, none⟩ = some (.slice vp vn vc) := KE.cell 2
    have HBE := Lib.hid hbE
    rw [← hWE]
    clear hWE KE hbE
    exact bodyPost_ret (v := .tuple #[.agg #[.int .i64 c.kind, .slice kp kn kc, .slice vp vn vc], .int .i64 0, .bool false]) (by simp [results, Try.results21, go_sem, e0, e1, e2]) rfl (DoPost.mk (c.kind) kn vn (0) false kp kc vp vc (by rw [HR.out]) (by rw [HR.out]; exact H1.out) (by rw [HR.out]; exact H2.out) (by rw [HR.out]) (by rw [HR.out]) rfl (by rw [HR.out]; exact N1.out) (by rw [HR.out]; exact N2.out) HBE.out (.inl ⟨rfl, by rw [HR.out]⟩) (.inl ⟨rfl, by rw [HR.out]⟩))

set_option maxRecDepth 100000 in
set_option maxHeartbeats 4000000 in
theorem push_any (c : ContV) (o : OpV) (kn vn : Nat) (h1 : c.keys.length = kn) (h2 : c.vals.length = vn) (kp vp : Option Addr) (kc vc : Nat) (w : World) (a1 : Nums w kp kc c.keys) (a2 : Nums w vp vc c.vals) (l1 : kn ≤ 40000) (l2 : vn ≤ 40000) :
    Calls Try.prog 24 #[.agg #[.int .i64 c.kind, .slice kp kn kc, .slice vp vn vc], .agg #[.int .i64 o.kind, .int .i64 o.obj, .int .i64 o.a, .int .i64 o.b]] w (DoPost w c kp vp (pushC c o)) := by
  obtain ⟨W, hW⟩ : ∃ W, W = ((w.alloc (Obj.cells #[.int .i64 c.kind, .slice kp kn kc, .slice vp vn vc] 24)).alloc (Obj.cells #[.int .i64 o.kind, .int .i64 o.obj, .int .i64 o.a, .int .i64 o.b] 26)).alloc (Obj.cells #[.int .i64 0, .slice none 0 0, .slice none 0 0] 24) := ⟨_, rfl⟩
  have hbW : Below w.heap.size w W := by rw [hW]; exact below_alloc3 w _ _ _
  have K1 : Blk W w.heap.size 24 #[.int .i64 c.kind, .slice kp kn kc, .slice vp vn vc] := by rw [hW]; exact ((Blk.made w _ _).alloc _).alloc _
  have K2 : Blk W (w.heap.size + 1) 26 #[.int .i64 o.kind, .int .i64 o.obj, .int .i64 o.a, .int .i64 o.b] := by rw [hW]; exact (Blk.made1 w _ _ _).alloc _
  have K3 : Blk W (w.heap.size + 1 + 1) 24 #[.int .i64 0, .slice none 0 0, .slice none 0 0] := by rw [hW]; exact Blk.made2 w _ _ _ _
  have HW := Lib.hid hW
  have HB := Lib.hid hbW
  have HK := Lib.hid (a1.later hbW)
  have HV := Lib.hid (a2.later hbW)
  have H1 := Lib.hid h1
  have H2 := Lib.hid h2
  have hs3 : w.heap.size ≤ w.heap.size + 1 + 1 := by omega
  have HKL := Lib.hid fun h b off e => a1.below h b off e
  have HVL := Lib.hid fun h b off e => a2.below h b off e
  clear hW hbW a1 a2 h1 h2
  obtain ⟨r, hr⟩ : ∃ r, pushC c o = r := ⟨_, rfl⟩
  rw [hr]
  unfold pushC at hr
  obtain ⟨L, hL⟩ : ∃ L, o.a :: c.vals = L := ⟨_, rfl⟩
  obtain ⟨nL, hnL⟩ : ∃ n, L.length = n := ⟨_, rfl⟩
  rw [hL] at hr
  have HR := Lib.hid hr.symm
  have HCT := Lib.hid fun (x : After W) => (show Calls Try.prog 28 #[.slice vp vn vc, .int .i64 0, .int .i64 o.a] x.w (NumsPost x.w L) from by
    have := with_any c.vals vn H2.out vp vc 0 o.a x.w (HV.out.later x.bel) (by omega) (by omega)
    rw [← hL]
    simpa using this)
  have HNL := Lib.hid hnL
  clear hr hL hnL
  have lk1 := K1.lt
  have lk2 := K2.lt
  have cy0 : ∀ y : After W, y.w.cell? ⟨w.heap.size, 0, none⟩ = some (.int .i64 c.kind) := fun y => (y.cell lk1).trans (K1.cell 0)
  have cy1 : ∀ y : After W, y.w.cell? ⟨w.heap.size, 1, none⟩ = some (.slice kp kn kc) := fun y => (y.cell lk1).trans (K1.cell 1)
  have cy2 : ∀ y : After W, y.w.cell? ⟨w.heap.size, 2, none⟩ = some (.slice vp vn vc) := fun y => (y.cell lk1).trans (K1.cell 2)
  have oy0 : ∀ y : After W, y.w.cell? ⟨w.heap.size + 1, 0, none⟩ = some (.int .i64 o.kind) := fun y => (y.cell lk2).trans (K2.cell 0)
  have oy1 : ∀ y : After W, y.w.cell? ⟨w.heap.size + 1, 1, none⟩ = some (.int .i64 o.obj) := fun y => (y.cell lk2).trans (K2.cell 1)
  have oy2 : ∀ y : After W, y.w.cell? ⟨w.heap.size + 1, 2, none⟩ = some (.int .i64 o.a) := fun y => (y.cell lk2).trans (K2.cell 2)
  have oy3 : ∀ y : After W, y.w.cell? ⟨w.heap.size + 1, 3, none⟩ = some (.int .i64 o.b) := fun y => (y.cell lk2).trans (K2.cell 3)
  go_enter Try.func24, Try.ntmps24
  go_wp2_with fail
  rw [← HW.out]
  refine wp_region_grow_tail 8 [(6, numsM W.heap.size nL L)] (by kernel_rfl) (by kernel_rfl) (by kernel_rfl) (by kernel_rfl) ?_
  simp only [List.take_succ_cons, List.take_zero, List.drop_succ_cons, List.drop_zero]
  (refine wpGrow_plain rfl ?_; go_big_quiet_step (fail); refine wpQuiet_nil ?_)
  (refine wpGrow_plain rfl ?_; go_big_quiet_step (fail); refine wpQuiet_nil ?_)
  (refine wpGrow_plain rfl ?_; go_big_quiet_step (fail); refine wpQuiet_nil ?_)
  (refine wpGrow_plain rfl ?_; go_big_quiet_step (fail); refine wpQuiet_nil ?_)
  (refine wpGrow_plain rfl ?_; go_big_quiet_step (fail); refine wpQuiet_nil ?_)
  (refine wpGrow_plain rfl ?_; go_big_quiet_step (fail); refine wpQuiet_nil ?_)
  refine wpGrow_any _ rfl rfl (fun _ hx hF => ?_) (fun v hv a' ha => ?_)
  · obtain ⟨x9, rfl⟩ := hx
    go_simp
    exact nums_make HNL.out x9.bel.size (HCT.out x9)
  obtain ⟨q9, c9, rfl⟩ := hv
  simp [go_sem] at ha
  subst ha
  (refine wpGrow_plain rfl ?_; go_big_quiet_step (fail); refine wpQuiet_nil ?_)
  refine wpGrow_nil ?_
  rintro _ ⟨y, rfl⟩ hF
  have hy9 := nums_fact (show (numsM W.heap.size nL L).S _ y.w from hF 6)
  obtain ⟨Y, hY⟩ : ∃ Y, Y = y.w := ⟨_, rfl⟩
  have hb := y.bel
  rw [← hY] at hy9
  rw [← hY] at hb
  rw [← hY]
  have lk3 := K3.lt
  have K3y := K3.later hb
  have HBY := Lib.hid (HB.out.trans (hb.mono HB.out.size))
  have Hhy9 := Lib.hid hy9
  clear K3 hY hb hF cy0 cy1 cy2 oy0 oy1 oy2 oy3 lk1 lk2 y hy9
  have K3 := K3y
  clear K3y
  have HBX := HBY
  have z0 : Y.cell? ⟨w.heap.size + 1 + 1, 0, none⟩ = some (.int .i64 0) := K3.cell 0
  have f0 := K3.free 0
  have z1 : Y.cell? ⟨w.heap.size + 1 + 1, 1, none⟩ = some (.slice none 0 0) := K3.cell 1
  have f1 := K3.free 1
  have z2 : Y.cell? ⟨w.heap.size + 1 + 1, 2, none⟩ = some (.slice none 0 0) := K3.cell 2
  have f2 := K3.free 2
  go_wp2_with fail
  clear z0 z1 z2 f0 f1 f2
  obtain ⟨WE, hWE⟩ : ∃ WE, WE = (((Y.setCell ⟨w.heap.size + 1 + 1, 0, none⟩ (.int .i64 c.kind)).setCell ⟨w.heap.size + 1 + 1, 1, none⟩ (.slice none 0 0)).setCell ⟨w.heap.size + 1 + 1, 2, none⟩ (.slice q9 nL c9)) := ⟨_, rfl⟩
  have KE : Blk WE (w.heap.size + 1 + 1) 24 #[.int .i64 c.kind, .slice none 0 0, .slice q9 nL c9] := by rw [hWE]; exact K3.put3 _ _ _
  have hbE : Below w.heap.size w WE := by rw [hWE]; exact below_set3 HBX.out hs3 _ _ _
  have N1 := Lib.hid (show Nums WE none 0 [] from by rw [hWE]; exact Nums.nix _)
  have N2 := Lib.hid (show Nums WE q9 c9 L from by rw [hWE]; exact Hhy9.out.1.far3 _ _ _ _ (fun _ b off e => by have := Hhy9.out.2 b off e; omega))
  have e0 : WE.cell? ⟨w.heap.size + 1 + 1, 0, none⟩ = some (.int .i64 c.kind) := KE.cell 0
  have e1 : WE.cell? ⟨w.heap.size + 1 + 1, 1, none⟩ = some (.slice none 0 0) := KE.cell 1
  have e2 : WE.cell? ⟨w.heap.size + 1 + 1, 2, none⟩ = some (.slice q9 nL c9) := KE.cell 2
  have HBE := Lib.hid hbE
  rw [← hWE]
  clear hWE KE hbE
  exact bodyPost_ret (v := .tuple #[.agg #[.int .i64 c.kind, .slice none 0 0, .slice q9 nL c9], .int .i64 0, .bool true]) (by simp [results, Try.results24, go_sem, e0, e1, e2]) rfl (DoPost.mk (c.kind) 0 nL (0) true none 0 _ _ (by rw [HR.out]) (by rw [HR.out]; exact rfl) (by rw [HR.out]; exact HNL.out) (by rw [HR.out]) (by rw [HR.out]) rfl (by rw [HR.out]; exact N1.out) (by rw [HR.out]; exact N2.out) HBE.out (.inr fun _ _ e => by cases e) (.inr fun b off e => by have := Hhy9.out.2 b off e; omega))

set_option maxRecDepth 100000 in
set_option maxHeartbeats 4000000 in
theorem send_any (c : ContV) (o : OpV) (kn vn : Nat) (h1 : c.keys.length = kn) (h2 : c.vals.length = vn) (kp vp : Option Addr) (kc vc : Nat) (w : World) (a1 : Nums w kp kc c.keys) (a2 : Nums w vp vc c.vals) (l1 : kn ≤ 40000) (l2 : vn ≤ 40000) :
    Calls Try.prog 26 #[.agg #[.int .i64 c.kind, .slice kp kn kc, .slice vp vn vc], .agg #[.int .i64 o.kind, .int .i64 o.obj, .int .i64 o.a, .int .i64 o.b]] w (DoPost w c kp vp (sendC c o)) := by
  obtain ⟨W, hW⟩ : ∃ W, W = ((w.alloc (Obj.cells #[.int .i64 c.kind, .slice kp kn kc, .slice vp vn vc] 24)).alloc (Obj.cells #[.int .i64 o.kind, .int .i64 o.obj, .int .i64 o.a, .int .i64 o.b] 26)).alloc (Obj.cells #[.int .i64 0, .slice none 0 0, .slice none 0 0] 24) := ⟨_, rfl⟩
  have hbW : Below w.heap.size w W := by rw [hW]; exact below_alloc3 w _ _ _
  have K1 : Blk W w.heap.size 24 #[.int .i64 c.kind, .slice kp kn kc, .slice vp vn vc] := by rw [hW]; exact ((Blk.made w _ _).alloc _).alloc _
  have K2 : Blk W (w.heap.size + 1) 26 #[.int .i64 o.kind, .int .i64 o.obj, .int .i64 o.a, .int .i64 o.b] := by rw [hW]; exact (Blk.made1 w _ _ _).alloc _
  have K3 : Blk W (w.heap.size + 1 + 1) 24 #[.int .i64 0, .slice none 0 0, .slice none 0 0] := by rw [hW]; exact Blk.made2 w _ _ _ _
  have HW := Lib.hid hW
  have HB := Lib.hid hbW
  have HK := Lib.hid (a1.later hbW)
  have HV := Lib.hid (a2.later hbW)
  have H1 := Lib.hid h1
  have H2 := Lib.hid h2
  have hs3 : w.heap.size ≤ w.heap.size + 1 + 1 := by omega
  have HKL := Lib.hid fun h b off e => a1.below h b off e
  have HVL := Lib.hid fun h b off e => a2.below h b off e
  clear hW hbW a1 a2 h1 h2
  obtain ⟨r, hr⟩ : ∃ r, sendC c o = r := ⟨_, rfl⟩
  rw [hr]
  unfold sendC at hr
  obtain ⟨L, hL⟩ : ∃ L, c.vals ++ [o.a] = L := ⟨_, rfl⟩
  obtain ⟨nL, hnL⟩ : ∃ n, L.length = n := ⟨_, rfl⟩
  rw [hL] at hr
  have HR := Lib.hid hr.symm
  have HCT := Lib.hid fun (x : After W) => (show Calls Try.prog 28 #[.slice vp vn vc, .int .i64 vn, .int .i64 o.a] x.w (NumsPost x.w L) from by
    have := with_any c.vals vn H2.out vp vc vn o.a x.w (HV.out.later x.bel) (by omega) (by omega)
    rw [List.take_of_length_le (by rw [H2.out]; omega), List.drop_of_length_le (by rw [H2.out]; omega)] at this
    rw [← hL]
    simpa using this)
  have HNL := Lib.hid hnL
  clear hr hL hnL
  have lk1 := K1.lt
  have lk2 := K2.lt
  have cy0 : ∀ y : After W, y.w.cell? ⟨w.heap.size, 0, none⟩ = some (.int .i64 c.kind) := fun y => (y.cell lk1).trans (K1.cell 0)
  have cy1 : ∀ y : After W, y.w.cell? ⟨w.heap.size, 1, none⟩ = some (.slice kp kn kc) := fun y => (y.cell lk1).trans (K1.cell 1)
  have cy2 : ∀ y : After W, y.w.cell? ⟨w.heap.size, 2, none⟩ = some (.slice vp vn vc) := fun y => (y.cell lk1).trans (K1.cell 2)
  have oy0 : ∀ y : After W, y.w.cell? ⟨w.heap.size + 1, 0, none⟩ = some (.int .i64 o.kind) := fun y => (y.cell lk2).trans (K2.cell 0)
  have oy1 : ∀ y : After W, y.w.cell? ⟨w.heap.size + 1, 1, none⟩ = some (.int .i64 o.obj) := fun y => (y.cell lk2).trans (K2.cell 1)
  have oy2 : ∀ y : After W, y.w.cell? ⟨w.heap.size + 1, 2, none⟩ = some (.int .i64 o.a) := fun y => (y.cell lk2).trans (K2.cell 2)
  have oy3 : ∀ y : After W, y.w.cell? ⟨w.heap.size + 1, 3, none⟩ = some (.int .i64 o.b) := fun y => (y.cell lk2).trans (K2.cell 3)
  go_enter Try.func26, Try.ntmps26
  go_wp2_with fail
  rw [← HW.out]
  refine wp_region_grow_tail 11 [(9, numsM W.heap.size nL L)] (by kernel_rfl) (by kernel_rfl) (by kernel_rfl) (by kernel_rfl) ?_
  simp only [List.take_succ_cons, List.take_zero, List.drop_succ_cons, List.drop_zero]
  (refine wpGrow_plain rfl ?_; go_big_quiet_step (fail); refine wpQuiet_nil ?_)
  (refine wpGrow_plain rfl ?_; go_big_quiet_step (fail); refine wpQuiet_nil ?_)
  (refine wpGrow_plain rfl ?_; go_big_quiet_step (fail); refine wpQuiet_nil ?_)
  (refine wpGrow_plain rfl ?_; go_big_quiet_step (fail); refine wpQuiet_nil ?_)
  (refine wpGrow_plain rfl ?_; go_big_quiet_step (fail); refine wpQuiet_nil ?_)
  (refine wpGrow_plain rfl ?_; go_big_quiet_step (fail); refine wpQuiet_nil ?_)
  (refine wpGrow_plain rfl ?_; go_big_quiet_step (fail); refine wpQuiet_nil ?_)
  (refine wpGrow_plain rfl ?_; go_big_quiet_step (fail); refine wpQuiet_nil ?_)
  (refine wpGrow_plain rfl ?_; go_big_quiet_step (fail); refine wpQuiet_nil ?_)
  refine wpGrow_any _ rfl rfl (fun _ hx hF => ?_) (fun v hv a' ha => ?_)
  · obtain ⟨x9, rfl⟩ := hx
    go_simp
    exact nums_make HNL.out x9.bel.size (HCT.out x9)
  obtain ⟨q9, c9, rfl⟩ := hv
  simp [go_sem] at ha
  subst ha
  (refine wpGrow_plain rfl ?_; go_big_quiet_step (fail); refine wpQuiet_nil ?_)
  refine wpGrow_nil ?_
  rintro _ ⟨y, rfl⟩ hF
  have hy9 := nums_fact (show (numsM W.heap.size nL L).S _ y.w from hF 9)
  obtain ⟨Y, hY⟩ : ∃ Y, Y = y.w := ⟨_, rfl⟩
  have hb := y.bel
  rw [← hY] at hy9
  rw [← hY] at hb
  rw [← hY]
  have lk3 := K3.lt
  have K3y := K3.later hb
  have HBY := Lib.hid (HB.out.trans (hb.mono HB.out.size))
  have Hhy9 := Lib.hid hy9
  clear K3 hY hb hF cy0 cy1 cy2 oy0 oy1 oy2 oy3 lk1 lk2 y hy9
  have K3 := K3y
  clear K3y
  have HBX := HBY
  have z0 : Y.cell? ⟨w.heap.size + 1 + 1, 0, none⟩ = some (.int .i64 0) := K3.cell 0
  have f0 := K3.free 0
  have z1 : Y.cell? ⟨w.heap.size + 1 + 1, 1, none⟩ = some (.slice none 0 0) := K3.cell 1
  have f1 := K3.free 1
  have z2 : Y.cell? ⟨w.heap.size + 1 + 1, 2, none⟩ = some (.slice none 0 0) := K3.cell 2
  have f2 := K3.free 2
  go_wp2_with fail
  clear z0 z1 z2 f0 f1 f2
  obtain ⟨WE, hWE⟩ : ∃ WE, WE = (((Y.setCell ⟨w.heap.size + 1 + 1, 0, none⟩ (.int .i64 c.kind)).setCell ⟨w.heap.size + 1 + 1, 1, none⟩ (.slice none 0 0)).setCell ⟨w.heap.size + 1 + 1, 2, none⟩ (.slice q9 nL c9)) := ⟨_, rfl⟩
  have KE : Blk WE (w.heap.size + 1 + 1) 24 #[.int .i64 c.kind, .slice none 0 0, .slice q9 nL c9] := by rw [hWE]; exact K3.put3 _ _ _
  have hbE : Below w.heap.size w WE := by rw [hWE]; exact below_set3 HBX.out hs3 _ _ _
  have N1 := Lib.hid (show Nums WE none 0 [] from by rw [hWE]; exact Nums.nix _)
  have N2 := Lib.hid (show Nums WE q9 c9 L from by rw [hWE]; exact Hhy9.out.1.far3 _ _ _ _ (fun _ b off e => by have := Hhy9.out.2 b off e; omega))
  have e0 : WE.cell? ⟨w.heap.size + 1 + 1, 0, none⟩ = some (.int .i64 c.kind) := KE.cell 0
  have e1 : WE.cell? ⟨w.heap.size + 1 + 1, 1, none⟩ = some (.slice none 0 0) := KE.cell 1
  have e2 : WE.cell? ⟨w.heap.size + 1 + 1, 2, none⟩ = some (.slice q9 nL c9) := KE.cell 2
  have HBE := Lib.hid hbE
  rw [← hWE]
  clear hWE KE hbE
  exact bodyPost_ret (v := .tuple #[.agg #[.int .i64 c.kind, .slice none 0 0, .slice q9 nL c9], .int .i64 0, .bool true]) (by simp [results, Try.results26, go_sem, e0, e1, e2]) rfl (DoPost.mk (c.kind) 0 nL (0) true none 0 _ _ (by rw [HR.out]) (by rw [HR.out]; exact rfl) (by rw [HR.out]; exact HNL.out) (by rw [HR.out]) (by rw [HR.out]) rfl (by rw [HR.out]; exact N1.out) (by rw [HR.out]; exact N2.out) HBE.out (.inr fun _ _ e => by cases e) (.inr fun b off e => by have := Hhy9.out.2 b off e; omega))

set_option maxRecDepth 100000 in
set_option maxHeartbeats 4000000 in
theorem put_any (c : ContV) (o : OpV) (kn vn : Nat) (h1 : c.keys.length = kn) (h2 : c.vals.length = vn) (kp vp : Option Addr) (kc vc : Nat) (w : World) (a1 : Nums w kp kc c.keys) (a2 : Nums w vp vc c.vals) (l1 : kn ≤ 40000) (l2 : vn ≤ 40000) (hs : c.keys.Pairwise (· < ·)) (hkv : kn = vn) :
    Calls Try.prog 22 #[.agg #[.int .i64 c.kind, .slice kp kn kc, .slice vp vn vc], .agg #[.int .i64 o.kind, .int .i64 o.obj, .int .i64 o.a, .int .i64 o.b]] w (DoPost w c kp vp (putC c o)) := by
  obtain ⟨W, hW⟩ : ∃ W, W = ((w.alloc (Obj.cells #[.int .i64 c.kind, .slice kp kn kc, .slice vp vn vc] 24)).alloc (Obj.cells #[.int .i64 o.kind, .int .i64 o.obj, .int .i64 o.a, .int .i64 o.b] 26)).alloc (Obj.cells #[.int .i64 0, .slice none 0 0, .slice none 0 0] 24) := ⟨_, rfl⟩
  have hbW : Below w.heap.size w W := by rw [hW]; exact below_alloc3 w _ _ _
  have K1 : Blk W w.heap.size 24 #[.int .i64 c.kind, .slice kp kn kc, .slice vp vn vc] := by rw [hW]; exact ((Blk.made w _ _).alloc _).alloc _
  have K2 : Blk W (w.heap.size + 1) 26 #[.int .i64 o.kind, .int .i64 o.obj, .int .i64 o.a, .int .i64 o.b] := by rw [hW]; exact (Blk.made1 w _ _ _).alloc _
  have K3 : Blk W (w.heap.size + 1 + 1) 24 #[.int .i64 0, .slice none 0 0, .slice none 0 0] := by rw [hW]; exact Blk.made2 w _ _ _ _
  have HW := Lib.hid hW
  have HB := Lib.hid hbW
  have HK := Lib.hid (a1.later hbW)
  have HV := Lib.hid (a2.later hbW)
  have H1 := Lib.hid h1
  have H2 := Lib.hid h2
  have hs3 : w.heap.size ≤ w.heap.size + 1 + 1 := by omega
  have HKL := Lib.hid fun h b off e => a1.below h b off e
  have HVL := Lib.hid fun h b off e => a2.below h b off e
  clear hW hbW a1 a2 h1 h2
  have HFI := Lib.hid (find_any c.keys kn H1.out hs kp kc o.a W HK.out (by omega))
  obtain ⟨at_, hat⟩ : ∃ a, lbP c.keys o.a = a := ⟨_, rfl⟩
  have HAT := Lib.hid hat
  have hle : at_ ≤ kn := by rw [← hat, ← H1.out]; exact lb_le _ _
  rw [hat] at HFI
  have d0 : W.cell? ⟨w.heap.size, 0, none⟩ = some (.int .i64 c.kind) := K1.cell 0
  have d1 : W.cell? ⟨w.heap.size, 1, none⟩ = some (.slice kp kn kc) := K1.cell 1
  have d2 : W.cell? ⟨w.heap.size, 2, none⟩ = some (.slice vp vn vc) := K1.cell 2
  have p0 : W.cell? ⟨w.heap.size + 1, 0, none⟩ = some (.int .i64 o.kind) := K2.cell 0
  have p1 : W.cell? ⟨w.heap.size + 1, 1, none⟩ = some (.int .i64 o.obj) := K2.cell 1
  have p2 : W.cell? ⟨w.heap.size + 1, 2, none⟩ = some (.int .i64 o.a) := K2.cell 2
  have p3 : W.cell? ⟨w.heap.size + 1, 3, none⟩ = some (.int .i64 o.b) := K2.cell 3
  obtain ⟨r, hr⟩ : ∃ r, putC c o = r := ⟨_, rfl⟩
  rw [hr]
  unfold putC at hr
  rw [hat] at hr
  have HKV := Lib.hid hkv
  by_cases his : isP c.keys o.a = true
  · have hlt : at_ < kn := by rw [← hat, ← H1.out]; exact lb_lt his
    have havn : at_ < vn := by omega
    rw [if_pos his] at hr
    rw [his] at HFI
    have HR := Lib.hid hr.symm
    clear hat hs his hr hkv
    go_enter Try.func22, Try.ntmps22
    go_wp2_with fail
    rw [← HW.out]
    refine (HFI.out).mono ?_
    rintro e w1 ⟨rfl, d, rfl⟩
    have hKX := HK.out.drawn d
    have hVX := HV.out.drawn d
    have hBX := below_drewN HB.out d
    have hK1 := K1.drawn d
    have hK2 := K2.drawn d
    have hK3 := K3.drawn d
    obtain ⟨X, hX⟩ : ∃ X, X = W.drewN d := ⟨_, rfl⟩
    rw [← hX] at hKX hVX hBX hK1 hK2 hK3
    rw [← hX]
    have HKX := Lib.hid hKX
    have HVX := Lib.hid hVX
    have HBX := Lib.hid hBX
    clear hX K1 K2 K3 hKX hVX hBX d0 d1 d2 p0 p1 p2 p3
    have K1 := hK1
    have K2 := hK2
    have K3 := hK3
    clear hK1 hK2 hK3
    have c0 : X.cell? ⟨w.heap.size, 0, none⟩ = some (.int .i64 c.kind) := K1.cell 0
    have c1 : X.cell? ⟨w.heap.size, 1, none⟩ = some (.slice kp kn kc) := K1.cell 1
    have c2 : X.cell? ⟨w.heap.size, 2, none⟩ = some (.slice vp vn vc) := K1.cell 2
    have o0 : X.cell? ⟨w.heap.size + 1, 0, none⟩ = some (.int .i64 o.kind) := K2.cell 0
    have o1 : X.cell? ⟨w.heap.size + 1, 1, none⟩ = some (.int .i64 o.obj) := K2.cell 1
    have o2 : X.cell? ⟨w.heap.size + 1, 2, none⟩ = some (.int .i64 o.a) := K2.cell 2
    have o3 : X.cell? ⟨w.heap.size + 1, 3, none⟩ = some (.int .i64 o.b) := K2.cell 3
    have z0 : X.cell? ⟨w.heap.size + 1 + 1, 0, none⟩ = some (.int .i64 0) := K3.cell 0
    have f0 := K3.free 0
    have z1 : X.cell? ⟨w.heap.size + 1 + 1, 1, none⟩ = some (.slice none 0 0) := K3.cell 1
    have f1 := K3.free 1
    have z2 : X.cell? ⟨w.heap.size + 1 + 1, 2, none⟩ = some (.slice none 0 0) := K3.cell 2
    have f2 := K3.free 2
    go_wp2_with fail
    clear c0 c1 c2 o0 o1 o2 o3 z0 z1 z2 f0 f1 f2
    obtain ⟨WE, hWE⟩ : ∃ WE, WE = (((X.setCell ⟨w.heap.size + 1 + 1, 0, none⟩ (.int .i64 c.kind)).setCell ⟨w.heap.size + 1 + 1, 1, none⟩ (.slice kp kn kc)).setCell ⟨w.heap.size + 1 + 1, 2, none⟩ (.slice vp vn vc)) := ⟨_, rfl⟩
    have KE : Blk WE (w.heap.size + 1 + 1) 24 #[.int .i64 c.kind, .slice kp kn kc, .slice vp vn vc] := by rw [hWE]; exact K3.put3 _ _ _
    have hbE : Below w.heap.size w WE := by rw [hWE]; exact below_set3 HBX.out hs3 _ _ _
    have N1 := Lib.hid (show Nums WE kp kc c.keys from by rw [hWE]; exact HKX.out.far3 _ _ _ _ (fun h b off e => by have := HKL.out h b off e; omega))
    have N2 := Lib.hid (show Nums WE vp vc c.vals from by rw [hWE]; exact HVX.out.far3 _ _ _ _ (fun h b off e => by have := HVL.out h b off e; omega))
    have e0 : WE.cell? ⟨w.heap.size + 1 + 1, 0, none⟩ = some (.int .i64 c.kind) := KE.cell 0
    have e1 : WE.cell? ⟨w.heap.size + 1 + 1, 1, none⟩ = some (.slice kp kn kc) := KE.cell 1
    have e2 : WE.cell? ⟨w.heap.size + 1 + 1, 2, none⟩ = some (.slice vp vn vc) := KE.cell 2
    have HBE := Lib.hid hbE
    rw [← hWE]
    clear hWE KE hbE
    exact bodyPost_ret (v := .tuple #[.agg #[.int .i64 c.kind, .slice kp kn kc, .slice vp vn vc], .int .i64 0, .bool false]) (by simp [results, Try.results22, go_sem, e0, e1, e2]) rfl (DoPost.mk (c.kind) kn vn (0) false kp kc vp vc (by rw [HR.out]) (by rw [HR.out]; exact H1.out) (by rw [HR.out]; exact H2.out) (by rw [HR.out]) (by rw [HR.out]) rfl (by rw [HR.out]; exact N1.out) (by rw [HR.out]; exact N2.out) HBE.out (.inl ⟨rfl, by rw [HR.out]⟩) (.inl ⟨rfl, by rw [HR.out]⟩))
  · have hif : isP c.keys o.a = false := by simpa using his
    have havn : at_ ≤ vn := by omega
    rw [if_neg his] at hr
    rw [hif] at HFI
    have HR := Lib.hid hr.symm
    clear hat hs his hif hr hkv
    go_enter Try.func22, Try.ntmps22
    go_wp2_with fail
    rw [← HW.out]
    refine (HFI.out).mono ?_
    rintro e w1 ⟨rfl, d, rfl⟩
    have hKX := HK.out.drawn d
    have hVX := HV.out.drawn d
    have hBX := below_drewN HB.out d
    have hK1 := K1.drawn d
    have hK2 := K2.drawn d
    have hK3 := K3.drawn d
    obtain ⟨X, hX⟩ : ∃ X, X = W.drewN d := ⟨_, rfl⟩
    rw [← hX] at hKX hVX hBX hK1 hK2 hK3
    rw [← hX]
    have HKX := Lib.hid hKX
    have HVX := Lib.hid hVX
    have HBX := Lib.hid hBX
    clear hX K1 K2 K3 hKX hVX hBX d0 d1 d2 p0 p1 p2 p3
    have K1 := hK1
    have K2 := hK2
    have K3 := hK3
    clear hK1 hK2 hK3
    obtain ⟨LK, hLK⟩ : ∃ L, c.keys.take at_ ++ o.a :: c.keys.drop at_ = L := ⟨_, rfl⟩
    obtain ⟨LV, hLV⟩ : ∃ L, c.vals.take at_ ++ o.b :: c.vals.drop at_ = L := ⟨_, rfl⟩
    obtain ⟨nK, hnK⟩ : ∃ n, LK.length = n := ⟨_, rfl⟩
    obtain ⟨nV, hnV⟩ : ∃ n, LV.length = n := ⟨_, rfl⟩
    have hr2 := HR.out
    rw [hLK, hLV] at hr2
    have HR := Lib.hid hr2
    have HCK := Lib.hid fun (x : After X) => with_any c.keys kn H1.out kp kc at_ o.a x.w (HKX.out.later x.bel) hle (by omega)
    have HCV := Lib.hid fun (x : After X) => with_any c.vals vn H2.out vp vc at_ o.b x.w (HVX.out.later x.bel) havn (by omega)
    rw [hLK] at HCK
    rw [hLV] at HCV
    have HNK := Lib.hid hnK
    have HNV := Lib.hid hnV
    clear hLK hLV hnK hnV hr2
    have lk1 := K1.lt
    have lk2 := K2.lt
    have cy0 : ∀ y : After X, y.w.cell? ⟨w.heap.size, 0, none⟩ = some (.int .i64 c.kind) := fun y => (y.cell lk1).trans (K1.cell 0)
    have cy1 : ∀ y : After X, y.w.cell? ⟨w.heap.size, 1, none⟩ = some (.slice kp kn kc) := fun y => (y.cell lk1).trans (K1.cell 1)
    have cy2 : ∀ y : After X, y.w.cell? ⟨w.heap.size, 2, none⟩ = some (.slice vp vn vc) := fun y => (y.cell lk1).trans (K1.cell 2)
    have oy0 : ∀ y : After X, y.w.cell? ⟨w.heap.size + 1, 0, none⟩ = some (.int .i64 o.kind) := fun y => (y.cell lk2).trans (K2.cell 0)
    have oy1 : ∀ y : After X, y.w.cell? ⟨w.heap.size + 1, 1, none⟩ = some (.int .i64 o.obj) := fun y => (y.cell lk2).trans (K2.cell 1)
    have oy2 : ∀ y : After X, y.w.cell? ⟨w.heap.size + 1, 2, none⟩ = some (.int .i64 o.a) := fun y => (y.cell lk2).trans (K2.cell 2)
    have oy3 : ∀ y : After X, y.w.cell? ⟨w.heap.size + 1, 3, none⟩ = some (.int .i64 o.b) := fun y => (y.cell lk2).trans (K2.cell 3)
    have c0 : X.cell? ⟨w.heap.size, 0, none⟩ = some (.int .i64 c.kind) := K1.cell 0
    have c1 : X.cell? ⟨w.heap.size, 1, none⟩ = some (.slice kp kn kc) := K1.cell 1
    have c2 : X.cell? ⟨w.heap.size, 2, none⟩ = some (.slice vp vn vc) := K1.cell 2
    have o0 : X.cell? ⟨w.heap.size + 1, 0, none⟩ = some (.int .i64 o.kind) := K2.cell 0
    have o1 : X.cell? ⟨w.heap.size + 1, 1, none⟩ = some (.int .i64 o.obj) := K2.cell 1
    have o2 : X.cell? ⟨w.heap.size + 1, 2, none⟩ = some (.int .i64 o.a) := K2.cell 2
    have o3 : X.cell? ⟨w.heap.size + 1, 3, none⟩ = some (.int .i64 o.b) := K2.cell 3
    go_wp2_with fail
    clear c0 c1 c2 o0 o1 o2 o3
    refine wp_region_grow_tail 15 [(7, numsM X.heap.size nK LK), (13, numsM X.heap.size nV LV)] (by kernel_rfl) (by kernel_rfl) (by kernel_rfl) (by kernel_rfl) ?_
    simp only [List.take_succ_cons, List.take_zero, List.drop_succ_cons, List.drop_zero]
    (refine wpGrow_plain rfl ?_; go_big_quiet_step (fail); refine wpQuiet_nil ?_)
    (refine wpGrow_plain rfl ?_; go_big_quiet_step (fail); refine wpQuiet_nil ?_)
    (refine wpGrow_plain rfl ?_; go_big_quiet_step (fail); refine wpQuiet_nil ?_)
    (refine wpGrow_plain rfl ?_; go_big_quiet_step (fail); refine wpQuiet_nil ?_)
    (refine wpGrow_plain rfl ?_; go_big_quiet_step (fail); refine wpQuiet_nil ?_)
    (refine wpGrow_plain rfl ?_; go_big_quiet_step (fail); refine wpQuiet_nil ?_)
    (refine wpGrow_plain rfl ?_; go_big_quiet_step (fail); refine wpQuiet_nil ?_)
    refine wpGrow_any _ rfl rfl (fun _ hx hF => ?_) (fun v hv a' ha => ?_)
    · obtain ⟨x9, rfl⟩ := hx
      go_simp
      exact nums_make HNK.out x9.bel.size (HCK.out x9)
    obtain ⟨q9, c9, rfl⟩ := hv
    simp [go_sem] at ha
    subst ha
    (refine wpGrow_plain rfl ?_; go_big_quiet_step (fail); refine wpQuiet_nil ?_)
    (refine wpGrow_plain rfl ?_; go_big_quiet_step (fail); refine wpQuiet_nil ?_)
    (refine wpGrow_plain rfl ?_; go_big_quiet_step (fail); refine wpQuiet_nil ?_)
    (refine wpGrow_plain rfl ?_; go_big_quiet_step (fail); refine wpQuiet_nil ?_)
    (refine wpGrow_plain rfl ?_; go_big_quiet_step (fail); refine wpQuiet_nil ?_)
    refine wpGrow_any _ rfl rfl (fun _ hx hF => ?_) (fun v hv a' ha => ?_)
    · obtain ⟨x9, rfl⟩ := hx
      go_simp
      exact nums_make HNV.out x9.bel.size (HCV.out x9)
    obtain ⟨q8, c8, rfl⟩ := hv
    simp [go_sem] at ha
    subst ha
    (refine wpGrow_plain rfl ?_; go_big_quiet_step (fail); refine wpQuiet_nil ?_)
    refine wpGrow_nil ?_
    rintro _ ⟨y, rfl⟩ hF
    have hy9 := nums_fact (show (numsM X.heap.size nK LK).S _ y.w from hF 7)
    have hy8 := nums_fact (show (numsM X.heap.size nV LV).S _ y.w from hF 13)
    obtain ⟨Y, hY⟩ : ∃ Y, Y = y.w := ⟨_, rfl⟩
    have hb := y.bel
    rw [← hY] at hy9
    rw [← hY] at hy8
    rw [← hY] at hb
    rw [← hY]
    have lk3 := K3.lt
    have K3y := K3.later hb
    have HBY := Lib.hid (HBX.out.trans (hb.mono HBX.out.size))
    have Hhy9 := Lib.hid hy9
    have Hhy8 := Lib.hid hy8
    clear K3 hY hb hF cy0 cy1 cy2 oy0 oy1 oy2 oy3 lk1 lk2 y hy9 hy8
    have K3 := K3y
    clear K3y
    have HBX := HBY
    have z0 : Y.cell? ⟨w.heap.size + 1 + 1, 0, none⟩ = some (.int .i64 0) := K3.cell 0
    have f0 := K3.free 0
    have z1 : Y.cell? ⟨w.heap.size + 1 + 1, 1, none⟩ = some (.slice none 0 0) := K3.cell 1
    have f1 := K3.free 1
    have z2 : Y.cell? ⟨w.heap.size + 1 + 1, 2, none⟩ = some (.slice none 0 0) := K3.cell 2
    have f2 := K3.free 2
    go_wp2_with fail
    clear z0 z1 z2 f0 f1 f2
    obtain ⟨WE, hWE⟩ : ∃ WE, WE = (((Y.setCell ⟨w.heap.size + 1 + 1, 0, none⟩ (.int .i64 c.kind)).setCell ⟨w.heap.size + 1 + 1, 1, none⟩ (.slice q9 nK c9)).setCell ⟨w.heap.size + 1 + 1, 2, none⟩ (.slice q8 nV c8)) := ⟨_, rfl⟩
    have KE : Blk WE (w.heap.size + 1 + 1) 24 #[.int .i64 c.kind, .slice q9 nK c9, .slice q8 nV c8] := by rw [hWE]; exact K3.put3 _ _ _
    have hbE : Below w.heap.size w WE := by rw [hWE]; exact below_set3 HBX.out hs3 _ _ _
    have N1 := Lib.hid (show Nums WE q9 c9 LK from by rw [hWE]; exact Hhy9.out.1.far3 _ _ _ _ (fun _ b off e => by have := Hhy9.out.2 b off e; omega))
    have N2 := Lib.hid (show Nums WE q8 c8 LV from by rw [hWE]; exact Hhy8.out.1.far3 _ _ _ _ (fun _ b off e => by have := Hhy8.out.2 b off e; omega))
    have e0 : WE.cell? ⟨w.heap.size + 1 + 1, 0, none⟩ = some (.int .i64 c.kind) := KE.cell 0
    have e1 : WE.cell? ⟨w.heap.size + 1 + 1, 1, none⟩ = some (.slice q9 nK c9) := KE.cell 1
    have e2 : WE.cell? ⟨w.heap.size + 1 + 1, 2, none⟩ = some (.slice q8 nV c8) := KE.cell 2
    have HBE := Lib.hid hbE
    rw [← hWE]
    clear hWE KE hbE
    exact bodyPost_ret (v := .tuple #[.agg #[.int .i64 c.kind, .slice q9 nK c9, .slice q8 nV c8], .int .i64 0, .bool true]) (by simp [results, Try.results22, go_sem, e0, e1, e2]) rfl (DoPost.mk (c.kind) nK nV (0) true _ _ _ _ (by rw [HR.out]) (by rw [HR.out]; exact HNK.out) (by rw [HR.out]; exact HNV.out) (by rw [HR.out]) (by rw [HR.out]) rfl (by rw [HR.out]; exact N1.out) (by rw [HR.out]; exact N2.out) HBE.out (.inr fun b off e => by have := Hhy9.out.2 b off e; omega) (.inr fun b off e => by have := Hhy8.out.2 b off e; omega))

set_option maxRecDepth 100000 in
set_option maxHeartbeats 4000000 in
theorem del_any (c : ContV) (o : OpV) (kn vn : Nat) (h1 : c.keys.length = kn) (h2 : c.vals.length = vn) (kp vp : Option Addr) (kc vc : Nat) (w : World) (a1 : Nums w kp kc c.keys) (a2 : Nums w vp vc c.vals) (l1 : kn ≤ 40000) (l2 : vn ≤ 40000) (hs : c.keys.Pairwise (· < ·)) (hkv : kn = vn) :
    Calls Try.prog 23 #[.agg #[.int .i64 c.kind, .slice kp kn kc, .slice vp vn vc], .agg #[.int .i64 o.kind, .int .i64 o.obj, .int .i64 o.a, .int .i64 o.b]] w (DoPost w c kp vp (delC c o)) := by
  obtain ⟨W, hW⟩ : ∃ W, W = ((w.alloc (Obj.cells #[.int .i64 c.kind, .slice kp kn kc, .slice vp vn vc] 24)).alloc (Obj.cells #[.int .i64 o.kind, .int .i64 o.obj, .int .i64 o.a, .int .i64 o.b] 26)).alloc (Obj.cells #[.int .i64 0, .slice none 0 0, .slice none 0 0] 24) := ⟨_, rfl⟩
  have hbW : Below w.heap.size w W := by rw [hW]; exact below_alloc3 w _ _ _
  have K1 : Blk W w.heap.size 24 #[.int .i64 c.kind, .slice kp kn kc, .slice vp vn vc] := by rw [hW]; exact ((Blk.made w _ _).alloc _).alloc _
  have K2 : Blk W (w.heap.size + 1) 26 #[.int .i64 o.kind, .int .i64 o.obj, .int .i64 o.a, .int .i64 o.b] := by rw [hW]; exact (Blk.made1 w _ _ _).alloc _
  have K3 : Blk W (w.heap.size + 1 + 1) 24 #[.int .i64 0, .slice none 0 0, .slice none 0 0] := by rw [hW]; exact Blk.made2 w _ _ _ _
  have HW := Lib.hid hW
  have HB := Lib.hid hbW
  have HK := Lib.hid (a1.later hbW)
  have HV := Lib.hid (a2.later hbW)
  have H1 := Lib.hid h1
  have H2 := Lib.hid h2
  have hs3 : w.heap.size ≤ w.heap.size + 1 + 1 := by omega
  have HKL := Lib.hid fun h b off e => a1.below h b off e
  have HVL := Lib.hid fun h b off e => a2.below h b off e
  clear hW hbW a1 a2 h1 h2
  have HFI := Lib.hid (find_any c.keys kn H1.out hs kp kc o.a W HK.out (by omega))
  obtain ⟨at_, hat⟩ : ∃ a, lbP c.keys o.a = a := ⟨_, rfl⟩
  have HAT := Lib.hid hat
  have hle : at_ ≤ kn := by rw [← hat, ← H1.out]; exact lb_le _ _
  rw [hat] at HFI
  have d0 : W.cell? ⟨w.heap.size, 0, none⟩ = some (.int .i64 c.kind) := K1.cell 0
  have d1 : W.cell? ⟨w.heap.size, 1, none⟩ = some (.slice kp kn kc) := K1.cell 1
  have d2 : W.cell? ⟨w.heap.size, 2, none⟩ = some (.slice vp vn vc) := K1.cell 2
  have p0 : W.cell? ⟨w.heap.size + 1, 0, none⟩ = some (.int .i64 o.kind) := K2.cell 0
  have p1 : W.cell? ⟨w.heap.size + 1, 1, none⟩ = some (.int .i64 o.obj) := K2.cell 1
  have p2 : W.cell? ⟨w.heap.size + 1, 2, none⟩ = some (.int .i64 o.a) := K2.cell 2
  have p3 : W.cell? ⟨w.heap.size + 1, 3, none⟩ = some (.int .i64 o.b) := K2.cell 3
  obtain ⟨r, hr⟩ : ∃ r, delC c o = r := ⟨_, rfl⟩
  rw [hr]
  unfold delC at hr
  rw [hat] at hr
  have HKV := Lib.hid hkv
  by_cases his : isP c.keys o.a = true
  · have hlt : at_ < kn := by rw [← hat, ← H1.out]; exact lb_lt his
    have havn : at_ < vn := by omega
    rw [if_pos his] at hr
    rw [his] at HFI
    have HR := Lib.hid hr.symm
    clear hat hs his hr hkv
    go_enter Try.func23, Try.ntmps23
    go_wp2_with fail
    rw [← HW.out]
    refine (HFI.out).mono ?_
    rintro e w1 ⟨rfl, d, rfl⟩
    have hKX := HK.out.drawn d
    have hVX := HV.out.drawn d
    have hBX := below_drewN HB.out d
    have hK1 := K1.drawn d
    have hK2 := K2.drawn d
    have hK3 := K3.drawn d
    obtain ⟨X, hX⟩ : ∃ X, X = W.drewN d := ⟨_, rfl⟩
    rw [← hX] at hKX hVX hBX hK1 hK2 hK3
    rw [← hX]
    have HKX := Lib.hid hKX
    have HVX := Lib.hid hVX
    have HBX := Lib.hid hBX
    clear hX K1 K2 K3 hKX hVX hBX d0 d1 d2 p0 p1 p2 p3
    have K1 := hK1
    have K2 := hK2
    have K3 := hK3
    clear hK1 hK2 hK3
    obtain ⟨LK, hLK⟩ : ∃ L, c.keys.take at_ ++ c.keys.drop (at_ + 1) = L := ⟨_, rfl⟩
    obtain ⟨LV, hLV⟩ : ∃ L, c.vals.take at_ ++ c.vals.drop (at_ + 1) = L := ⟨_, rfl⟩
    obtain ⟨nK, hnK⟩ : ∃ n, LK.length = n := ⟨_, rfl⟩
    obtain ⟨nV, hnV⟩ : ∃ n, LV.length = n := ⟨_, rfl⟩
    have hr2 := HR.out
    rw [hLK, hLV] at hr2
    have HR := Lib.hid hr2
    have HCK := Lib.hid fun (x : After X) => without_any c.keys kn H1.out kp kc at_ x.w (HKX.out.later x.bel) hlt (by omega)
    have HCV := Lib.hid fun (x : After X) => without_any c.vals vn H2.out vp vc at_ x.w (HVX.out.later x.bel) havn (by omega)
    rw [hLK] at HCK
    rw [hLV] at HCV
    have HNK := Lib.hid hnK
    have HNV := Lib.hid hnV
    clear hLK hLV hnK hnV hr2
    have lk1 := K1.lt
    have lk2 := K2.lt
    have cy0 : ∀ y : After X, y.w.cell? ⟨w.heap.size, 0, none⟩ = some (.int .i64 c.kind) := fun y => (y.cell lk1).trans (K1.cell 0)
    have cy1 : ∀ y : After X, y.w.cell? ⟨w.heap.size, 1, none⟩ = some (.slice kp kn kc) := fun y => (y.cell lk1).trans (K1.cell 1)
    have cy2 : ∀ y : After X, y.w.cell? ⟨w.heap.size, 2, none⟩ = some (.slice vp vn vc) := fun y => (y.cell lk1).trans (K1.cell 2)
    have oy0 : ∀ y : After X, y.w.cell? ⟨w.heap.size + 1, 0, none⟩ = some (.int .i64 o.kind) := fun y => (y.cell lk2).trans (K2.cell 0)
    have oy1 : ∀ y : After X, y.w.cell? ⟨w.heap.size + 1, 1, none⟩ = some (.int .i64 o.obj) := fun y => (y.cell lk2).trans (K2.cell 1)
    have oy2 : ∀ y : After X, y.w.cell? ⟨w.heap.size + 1, 2, none⟩ = some (.int .i64 o.a) := fun y => (y.cell lk2).trans (K2.cell 2)
    have oy3 : ∀ y : After X, y.w.cell? ⟨w.heap.size + 1, 3, none⟩ = some (.int .i64 o.b) := fun y => (y.cell lk2).trans (K2.cell 3)
    have c0 : X.cell? ⟨w.heap.size, 0, none⟩ = some (.int .i64 c.kind) := K1.cell 0
    have c1 : X.cell? ⟨w.heap.size, 1, none⟩ = some (.slice kp kn kc) := K1.cell 1
    have c2 : X.cell? ⟨w.heap.size, 2, none⟩ = some (.slice vp vn vc) := K1.cell 2
    have o0 : X.cell? ⟨w.heap.size + 1, 0, none⟩ = some (.int .i64 o.kind) := K2.cell 0
    have o1 : X.cell? ⟨w.heap.size + 1, 1, none⟩ = some (.int .i64 o.obj) := K2.cell 1
    have o2 : X.cell? ⟨w.heap.size + 1, 2, none⟩ = some (.int .i64 o.a) := K2.cell 2
    have o3 : X.cell? ⟨w.heap.size + 1, 3, none⟩ = some (.int .i64 o.b) := K2.cell 3
    go_wp2_with fail
    clear c0 c1 c2 o0 o1 o2 o3
    refine wp_region_grow_tail 11 [(5, numsM X.heap.size nK LK), (9, numsM X.heap.size nV LV)] (by kernel_rfl) (by kernel_rfl) (by kernel_rfl) (by kernel_rfl) ?_
    simp only [List.take_succ_cons, List.take_zero, List.drop_succ_cons, List.drop_zero]
    (refine wpGrow_plain rfl ?_; go_big_quiet_step (fail); refine wpQuiet_nil ?_)
    (refine wpGrow_plain rfl ?_; go_big_quiet_step (fail); refine wpQuiet_nil ?_)
    (refine wpGrow_plain rfl ?_; go_big_quiet_step (fail); refine wpQuiet_nil ?_)
    (refine wpGrow_plain rfl ?_; go_big_quiet_step (fail); refine wpQuiet_nil ?_)
    (refine wpGrow_plain rfl ?_; go_big_quiet_step (fail); refine wpQuiet_nil ?_)
    refine wpGrow_any _ rfl rfl (fun _ hx hF => ?_) (fun v hv a' ha => ?_)
    · obtain ⟨x9, rfl⟩ := hx
      go_simp
      exact nums_make HNK.out x9.bel.size (HCK.out x9)
    obtain ⟨q9, c9, rfl⟩ := hv
    simp [go_sem] at ha
    subst ha
    (refine wpGrow_plain rfl ?_; go_big_quiet_step (fail); refine wpQuiet_nil ?_)
    (refine wpGrow_plain rfl ?_; go_big_quiet_step (fail); refine wpQuiet_nil ?_)
    (refine wpGrow_plain rfl ?_; go_big_quiet_step (fail); refine wpQuiet_nil ?_)
    refine wpGrow_any _ rfl rfl (fun _ hx hF => ?_) (fun v hv a' ha => ?_)
    · obtain ⟨x9, rfl⟩ := hx
      go_simp
      exact nums_make HNV.out x9.bel.size (HCV.out x9)
    obtain ⟨q8, c8, rfl⟩ := hv
    simp [go_sem] at ha
    subst ha
    (refine wpGrow_plain rfl ?_; go_big_quiet_step (fail); refine wpQuiet_nil ?_)
    refine wpGrow_nil ?_
    rintro _ ⟨y, rfl⟩ hF
    have hy9 := nums_fact (show (numsM X.heap.size nK LK).S _ y.w from hF 5)
    have hy8 := nums_fact (show (numsM X.heap.size nV LV).S _ y.w from hF 9)
    obtain ⟨Y, hY⟩ : ∃ Y, Y = y.w := ⟨_, rfl⟩
    have hb := y.bel
    rw [← hY] at hy9
    rw [← hY] at hy8
    rw [← hY] at hb
    rw [← hY]
    have lk3 := K3.lt
    have K3y := K3.later hb
    have HBY := Lib.hid (HBX.out.trans (hb.mono HBX.out.size))
    have Hhy9 := Lib.hid hy9
    have Hhy8 := Lib.hid hy8
    clear K3 hY hb hF cy0 cy1 cy2 oy0 oy1 oy2 oy3 lk1 lk2 y hy9 hy8
    have K3 := K3y
    clear K3y
    have HBX := HBY
    have z0 : Y.cell? ⟨w.heap.size + 1 + 1, 0, none⟩ = some (.int .i64 0) := K3.cell 0
    have f0 := K3.free 0
    have z1 : Y.cell? ⟨w.heap.size + 1 + 1, 1, none⟩ = some (.slice none 0 0) := K3.cell 1
    have f1 := K3.free 1
    have z2 : Y.cell? ⟨w.heap.size + 1 + 1, 2, none⟩ = some (.slice none 0 0) := K3.cell 2
    have f2 := K3.free 2
    go_wp2_with fail
    clear z0 z1 z2 f0 f1 f2
    obtain ⟨WE, hWE⟩ : ∃ WE, WE = (((Y.setCell ⟨w.heap.size + 1 + 1, 0, none⟩ (.int .i64 c.kind)).setCell ⟨w.heap.size + 1 + 1, 1, none⟩ (.slice q9 nK c9)).setCell ⟨w.heap.size + 1 + 1, 2, none⟩ (.slice q8 nV c8)) := ⟨_, rfl⟩
    have KE : Blk WE (w.heap.size + 1 + 1) 24 #[.int .i64 c.kind, .slice q9 nK c9, .slice q8 nV c8] := by rw [hWE]; exact K3.put3 _ _ _
    have hbE : Below w.heap.size w WE := by rw [hWE]; exact below_set3 HBX.out hs3 _ _ _
    have N1 := Lib.hid (show Nums WE q9 c9 LK from by rw [hWE]; exact Hhy9.out.1.far3 _ _ _ _ (fun _ b off e => by have := Hhy9.out.2 b off e; omega))
    have N2 := Lib.hid (show Nums WE q8 c8 LV from by rw [hWE]; exact Hhy8.out.1.far3 _ _ _ _ (fun _ b off e => by have := Hhy8.out.2 b off e; omega))
    have e0 : WE.cell? ⟨w.heap.size + 1 + 1, 0, none⟩ = some (.int .i64 c.kind) := KE.cell 0
    have e1 : WE.cell? ⟨w.heap.size + 1 + 1, 1, none⟩ = some (.slice q9 nK c9) := KE.cell 1
    have e2 : WE.cell? ⟨w.heap.size + 1 + 1, 2, none⟩ = some (.slice q8 nV c8) := KE.cell 2
    have HBE := Lib.hid hbE
    rw [← hWE]
    clear hWE KE hbE
    exact bodyPost_ret (v := .tuple #[.agg #[.int .i64 c.kind, .slice q9 nK c9, .slice q8 nV c8], .int .i64 0, .bool true]) (by simp [results, Try.results23, go_sem, e0, e1, e2]) rfl (DoPost.mk (c.kind) nK nV (0) true _ _ _ _ (by rw [HR.out]) (by rw [HR.out]; exact HNK.out) (by rw [HR.out]; exact HNV.out) (by rw [HR.out]) (by rw [HR.out]) rfl (by rw [HR.out]; exact N1.out) (by rw [HR.out]; exact N2.out) HBE.out (.inr fun b off e => by have := Hhy9.out.2 b off e; omega) (.inr fun b off e => by have := Hhy8.out.2 b off e; omega))
  · have hif : isP c.keys o.a = false := by simpa using his
    have havn : at_ ≤ vn := by omega
    rw [if_neg his] at hr
    rw [hif] at HFI
    have HR := Lib.hid hr.symm
    clear hat hs his hif hr hkv
    go_enter Try.func23, Try.ntmps23
    go_wp2_with fail
    rw [← HW.out]
    refine (HFI.out).mono ?_
    rintro e w1 ⟨rfl, d, rfl⟩
    have hKX := HK.out.drawn d
    have hVX := HV.out.drawn d
    have hBX := below_drewN HB.out d
    have hK1 := K1.drawn d
    have hK2 := K2.drawn d
    have hK3 := K3.drawn d
    obtain ⟨X, hX⟩ : ∃ X, X = W.drewN d := ⟨_, rfl⟩
    rw [← hX] at hKX hVX hBX hK1 hK2 hK3
    rw [← hX]
    have HKX := Lib.hid hKX
    have HVX := Lib.hid hVX
    have HBX := Lib.hid hBX
    clear hX K1 K2 K3 hKX hVX hBX d0 d1 d2 p0 p1 p2 p3
    have K1 := hK1
    have K2 := hK2
    have K3 := hK3
    clear hK1 hK2 hK3
    have c0 : X.cell? ⟨w.heap.size, 0, none⟩ = some (.int .i64 c.kind) := K1.cell 0
    have c1 : X.cell? ⟨w.heap.size, 1, none⟩ = some (.slice kp kn kc) := K1.cell 1
    have c2 : X.cell? ⟨w.heap.size, 2, none⟩ = some (.slice vp vn vc) := K1.cell 2
    have o0 : X.cell? ⟨w.heap.size + 1, 0, none⟩ = some (.int .i64 o.kind) := K2.cell 0
    have o1 : X.cell? ⟨w.heap.size + 1, 1, none⟩ = some (.int .i64 o.obj) := K2.cell 1
    have o2 : X.cell? ⟨w.heap.size + 1, 2, none⟩ = some (.int .i64 o.a) := K2.cell 2
    have o3 : X.cell? ⟨w.heap.size + 1, 3, none⟩ = some (.int .i64 o.b) := K2.cell 3
    have z0 : X.cell? ⟨w.heap.size + 1 + 1, 0, none⟩ = some (.int .i64 0) := K3.cell 0
    have f0 := K3.free 0
    have z1 : X.cell? ⟨w.heap.size + 1 + 1, 1, none⟩ = some (.slice none 0 0) := K3.cell 1
    have f1 := K3.free 1
    have z2 : X.cell? ⟨w.heap.size + 1 + 1, 2, none⟩ = some (.slice none 0 0) := K3.cell 2
    have f2 := K3.free 2
    go_wp2_with fail
    clear c0 c1 c2 o0 o1 o2 o3 z0 z1 z2 f0 f1 f2
    obtain ⟨WE, hWE⟩ : ∃ WE, WE = (((X.setCell ⟨w.heap.size + 1 + 1, 0, none⟩ (.int .i64 c.kind)).setCell ⟨w.heap.size + 1 + 1, 1, none⟩ (.slice kp kn kc)).setCell ⟨w.heap.size + 1 + 1, 2, none⟩ (.slice vp vn vc)) := ⟨_, rfl⟩
    have KE : Blk WE (w.heap.size + 1 + 1) 24 #[.int .i64 c.kind, .slice kp kn kc, .slice vp vn vc] := by rw [hWE]; exact K3.put3 _ _ _
    have hbE : Below w.heap.size w WE := by rw [hWE]; exact below_set3 HBX.out hs3 _ _ _
    have N1 := Lib.hid (show Nums WE kp kc c.keys from by rw [hWE]; exact HKX.out.far3 _ _ _ _ (fun h b off e => by have := HKL.out h b off e; omega))
    have N2 := Lib.hid (show Nums WE vp vc c.vals from by rw [hWE]; exact HVX.out.far3 _ _ _ _ (fun h b off e => by have := HVL.out h b off e; omega))
    have e0 : WE.cell? ⟨w.heap.size + 1 + 1, 0, none⟩ = some (.int .i64 c.kind) := KE.cell 0
    have e1 : WE.cell? ⟨w.heap.size + 1 + 1, 1, none⟩ = some (.slice kp kn kc) := KE.cell 1
    have e2 : WE.cell? ⟨w.heap.size + 1 + 1, 2, none⟩ = some (.slice vp vn vc) := KE.cell 2
    have HBE := Lib.hid hbE
    rw [← hWE]
    clear hWE KE hbE
    exact bodyPost_ret (v := .tuple #[.agg #[.int .i64 c.kind, .slice kp kn kc, .slice vp vn vc], .int .i64 0, .bool false]) (by simp [results, Try.results23, go_sem, e0, e1, e2]) rfl (DoPost.mk (c.kind) kn vn (0) false kp kc vp vc (by rw [HR.out]) (by rw [HR.out]; exact H1.out) (by rw [HR.out]; exact H2.out) (by rw [HR.out]) (by rw [HR.out]) rfl (by rw [HR.out]; exact N1.out) (by rw [HR.out]; exact N2.out) HBE.out (.inl ⟨rfl, by rw [HR.out]⟩) (.inl ⟨rfl, by rw [HR.out]⟩))

end Go.Proofs.Ythbpoagkfpalfaa
