/-
  SPEC: All.
-/
import Derived.Test.YthbpoagkfpalfaaRows
import Derived.ProofKit
import Derived.Deep.QuietTactic
import Derived.BigQuiet
import Derived.LoopTactic
import Derived.Test.YthbpoagkfpalfaaSpecF
import Derived.Deep.OwnRows
namespace Go.Proofs.Ythbpoagkfpalfaa
open Go.ChangeShapes Go.WideShapes Go.ChangeAt Go.RowKit

def arrOf {α : Type} (f : α → Value) (z : Value) (L : List α) (n : Nat) : Array Value := (L.map f ++ List.replicate (n - L.length) z).toArray
theorem arrOf_size {α : Type} (f : α → Value) (z : Value) (L : List α) (n : Nat) (h : L.length ≤ n) : (arrOf f z L n).size = n := by simp [arrOf]; omega
theorem arrOf_start {α : Type} (f : α → Value) (z : Value) (n : Nat) : madeCells #[z] n = arrOf f z [] n := by
  apply Array.toList_inj.1
  rw [toList_madeCells_one]
  simp [arrOf]
theorem arrOf_put {α : Type} (f : α → Value) (z : Value) (L : List α) (n : Nat) (v : α) (k : Nat) (hk : L.length = k) (h : k < n) : (arrOf f z L n).setIfInBounds k (f v) = arrOf f z (L ++ [v]) n := by
  subst hk
  unfold arrOf
  rw [List.setIfInBounds_toArray]
  congr 1
  obtain ⟨m, hm⟩ : ∃ m, n - L.length = m + 1 := ⟨n - L.length - 1, by omega⟩
  rw [hm, List.replicate_succ, List.map_append, List.length_append, List.map_cons, List.map_nil, List.append_assoc]
  rw [List.set_append_right _ _ (by simp)]
  simp
  omega
theorem arrOf_end {α : Type} (f : α → Value) (z : Value) (L : List α) (n : Nat) (h : L.length = n) : (arrOf f z L n).toList.take L.length = L.map f := by
  unfold arrOf
  simp [h]
  rw [List.take_of_length_le (by simp [h])]
theorem arrOf_at {α : Type} (f : α → Value) (z : Value) (L : List α) (n k : Nat) (hk : L.length = k) (h : k < n) : (arrOf f z L n)[k]? = some z := by
  unfold arrOf
  subst hk
  rw [List.getElem?_toArray, List.getElem?_append_right (by simp)]
  simp [List.getElem?_replicate]; omega

/-- what operations make, one behind the other, and tell -/
def allC (c : ContV) : List OpV → ContV × List Int × List Bool
  | [] => (c, [], [])
  | o :: l => ((allC (doC c o).1 l).1, (doC c o).2.1 :: (allC (doC c o).1 l).2.1, (doC c o).2.2 :: (allC (doC c o).1 l).2.2)
theorem allC_snoc : ∀ (l : List OpV) (c : ContV) (o : OpV), allC c (l ++ [o]) = ((doC (allC c l).1 o).1, (allC c l).2.1 ++ [(doC (allC c l).1 o).2.1], (allC c l).2.2 ++ [(doC (allC c l).1 o).2.2])
  | [], c, o => rfl
  | x :: l, c, o => by
    show allC c (x :: (l ++ [o])) = _
    unfold allC
    rw [allC_snoc l (doC c x).1 o]
    rfl
theorem allC_len : ∀ (l : List OpV) (c : ContV), (allC c l).2.1.length = l.length ∧ (allC c l).2.2.length = l.length
  | [], _ => ⟨rfl, rfl⟩
  | o :: l, c => by
    have := allC_len l (doC c o).1
    unfold allC
    exact ⟨by simp [this.1], by simp [this.2]⟩
theorem take_insert {α : Type} (l : List α) (k : Nat) (x : α) : (l.take k ++ x :: l.drop k).length = l.length + 1 := by
  rw [List.length_append, List.length_cons, List.length_take, List.length_drop]; omega
theorem take_remove {α : Type} (l : List α) (k : Nat) : (l.take k ++ l.drop (k + 1)).length ≤ l.length := by
  rw [List.length_append, List.length_take, List.length_drop]; omega
theorem doC_len (c : ContV) (o : OpV) : (doC c o).1.keys.length ≤ c.keys.length + 1 ∧ (doC c o).1.vals.length ≤ c.vals.length + 1 := by
  unfold doC
  repeat' split
  · exact ⟨Nat.le_succ _, Nat.le_succ _⟩
  · unfold getC; split <;> exact ⟨Nat.le_succ _, Nat.le_succ _⟩
  · unfold putC
    split
    · exact ⟨Nat.le_succ _, Nat.le_succ _⟩
    · exact ⟨Nat.le_of_eq (take_insert _ _ _), Nat.le_of_eq (take_insert _ _ _)⟩
  · unfold delC
    split
    · exact ⟨Nat.le_succ_of_le (take_remove _ _), Nat.le_succ_of_le (take_remove _ _)⟩
    · exact ⟨Nat.le_succ _, Nat.le_succ _⟩
  · exact ⟨by simp [pushC], by simp [pushC]⟩
  · exact ⟨by simp [sendC], by simp [sendC]⟩
  · unfold firstC
    split
    · exact ⟨Nat.le_succ _, Nat.le_succ _⟩
    · exact ⟨by simp, by simp; omega⟩
theorem allC_grow : ∀ (l : List OpV) (c : ContV), (allC c l).1.keys.length ≤ c.keys.length + l.length ∧ (allC c l).1.vals.length ≤ c.vals.length + l.length
  | [], c => ⟨Nat.le_refl _, Nat.le_refl _⟩
  | o :: l, c => by
    have h1 := allC_grow l (doC c o).1
    have h2 := doC_len c o
    unfold allC
    simp only [List.length_cons]
    omega

def AllPost (w : World) (n : Nat) (r : ContV × List Int × List Bool) (e : Ending) (w' : World) : Prop := ∃ kp kc vp vc g1 g2,
  e = .returned (.tuple #[.agg #[.int .i64 r.1.kind, .slice kp r.1.keys.length kc, .slice vp r.1.vals.length vc], .slice (some ⟨g1, 0, none⟩) n n, .slice (some ⟨g2, 0, none⟩) n n]) ∧
    Nums w' kp kc r.1.keys ∧ Nums w' vp vc r.1.vals ∧ Nums w' (some ⟨g1, 0, none⟩) n r.2.1 ∧ Bls w' (some ⟨g2, 0, none⟩) n r.2.2 ∧ Below w.heap.size w w' ∧ w.heap.size ≤ g1 ∧ w.heap.size ≤ g2
theorem AllPost.at {w w' : World} {n : Nat} {r : ContV × List Int × List Bool} {e : Ending} (h : AllPost w n r e w') (k : Int) (kn vn : Nat) (hk : r.1.kind = k) (h1 : r.1.keys.length = kn) (h2 : r.1.vals.length = vn) : ∃ kp kc vp vc g1 g2,
  e = .returned (.tuple #[.agg #[.int .i64 k, .slice kp kn kc, .slice vp vn vc], .slice (some ⟨g1, 0, none⟩) n n, .slice (some ⟨g2, 0, none⟩) n n]) ∧
    Nums w' kp kc r.1.keys ∧ Nums w' vp vc r.1.vals ∧ Nums w' (some ⟨g1, 0, none⟩) n r.2.1 ∧ Bls w' (some ⟨g2, 0, none⟩) n r.2.2 ∧ Below w.heap.size w w' ∧ w.heap.size ≤ g1 ∧ w.heap.size ≤ g2 := by
  subst hk; subst h1; subst h2; exact h

/-- what holds ahead of the k-th operation -/
def AllInv (w : World) (g1 g2 B n : Nat) (s : ContV × List Int × List Bool) (W' : World) : Prop := ∃ kp kc vp vc,
  Blk W' w.heap.size 24 #[.int .i64 s.1.kind, .slice kp s.1.keys.length kc, .slice vp s.1.vals.length vc] ∧ Blk W' (w.heap.size + 1) 24 #[.int .i64 0, .slice none 0 0, .slice none 0 0] ∧
  Blk W' g1 3 (arrOf (Value.int .i64) (.int .i64 0) s.2.1 n) ∧ Blk W' g2 4 (arrOf Value.bool (.bool false) s.2.2 n) ∧ Nums W' kp kc s.1.keys ∧ Nums W' vp vc s.1.vals ∧
  (0 < s.1.keys.length → ∀ b off, kp = some ⟨b, off, none⟩ → b < w.heap.size ∨ B ≤ b) ∧ (0 < s.1.vals.length → ∀ b off, vp = some ⟨b, off, none⟩ → b < w.heap.size ∨ B ≤ b) ∧ Below w.heap.size w W' ∧ B ≤ W'.heap.size

def madeM (B : Nat) (t : TypeId) (cs : Array Value) (n : Nat) : Maker := ⟨fun v => ∃ g, v = .slice (some ⟨g, 0, none⟩) n n, fun v w => ∃ g, v = .slice (some ⟨g, 0, none⟩) n n ∧ Blk w g t cs ∧ B ≤ g, ⟨_, 0, rfl⟩,
  fun _ _ _ ⟨g, h1, h2, h3⟩ hb => ⟨g, h1, h2.later hb, h3⟩⟩
theorem made_fact {B n g : Nat} {t : TypeId} {cs : Array Value} {w : World} (h : (madeM B t cs n).S (.slice (some ⟨g, 0, none⟩) n n) w) : Blk w g t cs ∧ B ≤ g := by
  obtain ⟨g', e, hc⟩ := h
  injection e with e
  injection e with e
  injection e with e
  rw [e]; exact hc
theorem made_make {P : Program} {w : World} {B n : Nat} {t : TypeId} {cs : Array Value} (hB : B ≤ w.heap.size) : makeUpon P (madeM B t cs n) w (.ok (.value (.slice (some ⟨w.heap.size, 0, none⟩) n n)) (w.alloc (.cells cs t))) :=
  ⟨⟨_, rfl⟩, ⟨_, rfl, Blk.made w t cs, hB⟩, (Below.refl _ w).alloc (Nat.le_refl _) _⟩
theorem boolInfo : (Try.prog.info? 4).map (fun i => (i.zero, i.size, i.bytes)) = some (some (.bool false), 1, 1) := by kernel_rfl

set_option maxRecDepth 100000 in
set_option maxHeartbeats 8000000 in
theorem all_any (c : ContV) (kn vn : Nat) (h1 : c.keys.length = kn) (h2 : c.vals.length = vn) (kp vp : Option Addr) (kc vc : Nat) (l : List OpV) (n : Nat) (hl : l.length = n) (lp : Option Addr) (lc : Nat) (w : World) (a1 : Nums w kp kc c.keys) (a2 : Nums w vp vc c.vals) (a3 : Ods w lp l) (l1 : kn ≤ 20000) (l2 : vn ≤ 20000) (l3 : n ≤ 10000) :
    Calls Try.prog 15 #[.agg #[.int .i64 c.kind, .slice kp kn kc, .slice vp vn vc], .slice lp n lc] w (AllPost w n (allC c l)) := by
  obtain ⟨R, hR⟩ : ∃ r, allC c l = r := ⟨_, rfl⟩
  rw [hR]
  obtain ⟨W, hW⟩ : ∃ W, W = (w.alloc (Obj.cells #[.int .i64 c.kind, .slice kp kn kc, .slice vp vn vc] 24)).alloc (Obj.cells #[.int .i64 0, .slice none 0 0, .slice none 0 0] 24) := ⟨_, rfl⟩
  have hbW : Below w.heap.size w W := by rw [hW]; exact below_alloc2 w _ _
  have K1 : Blk W w.heap.size 24 #[.int .i64 c.kind, .slice kp kn kc, .slice vp vn vc] := by rw [hW]; exact (Blk.made w _ _).alloc _
  have K3 : Blk W (w.heap.size + 1) 24 #[.int .i64 0, .slice none 0 0, .slice none 0 0] := by rw [hW]; exact Blk.made1 w _ _ _
  have HR := Lib.hid hR
  have HW := Lib.hid hW
  have HB := Lib.hid hbW
  have A1 := Lib.hid a1
  have A2 := Lib.hid a2
  have H1 := Lib.hid h1
  have H2 := Lib.hid h2
  have HL := Lib.hid hl
  have HOD := Lib.hid fun wx (hx : Below w.heap.size w wx) => a3.later hx
  have HKL := Lib.hid fun h b off e => a1.below h b off e
  have HVL := Lib.hid fun h b off e => a2.below h b off e
  have hmk1 := fun wx => run_make_row' (P := Try.prog) 22 3 (.int .i64 0) 8 Try.underlying22 intInfo rfl .i64 .i64 n (by omega) (by omega) wx
  have hmk2 := fun wx => run_make_row' (P := Try.prog) 35 4 (.bool false) 1 Try.underlying35 boolInfo rfl .i64 .i64 n (by omega) (by omega) wx
  rw [arrOf_start (Value.int .i64)] at hmk1
  rw [arrOf_start Value.bool] at hmk2
  clear hR hW hbW a1 a2 a3 h1 h2 hl
  go_enter Try.func15, Try.ntmps15
  go_wp2_with fail
  rw [← HW.out]
  refine wp_region_grow [(2, madeM W.heap.size 3 (arrOf (Value.int .i64) (.int .i64 0) [] n) n), (5, madeM W.heap.size 4 (arrOf Value.bool (.bool false) [] n) n)] (by kernel_rfl) (by kernel_rfl) (by kernel_rfl) ?_
  (refine wpGrow_plain rfl ?_; go_big_quiet_step (fail); refine wpQuiet_nil ?_)
  (refine wpGrow_plain rfl ?_; go_big_quiet_step (fail); refine wpQuiet_nil ?_)
  refine wpGrow_any _ rfl rfl (fun _ hx hF => ?_) (fun v hv a' ha => ?_)
  · obtain ⟨x9, rfl⟩ := hx
    go_simp
    first | (rw [hmk1]; exact made_make x9.bel.size) | exact made_make x9.bel.size
  obtain ⟨g1, rfl⟩ := hv
  simp [go_sem] at ha
  subst ha
  (refine wpGrow_plain rfl ?_; go_big_quiet_step (fail); refine wpQuiet_nil ?_)
  (refine wpGrow_plain rfl ?_; go_big_quiet_step (fail); refine wpQuiet_nil ?_)
  refine wpGrow_any _ rfl rfl (fun _ hx hF => ?_) (fun v hv a' ha => ?_)
  · obtain ⟨x9, rfl⟩ := hx
    go_simp
    first | (rw [hmk2]; exact made_make x9.bel.size) | exact made_make x9.bel.size
  obtain ⟨g2, rfl⟩ := hv
  simp [go_sem] at ha
  subst ha
  (refine wpGrow_plain rfl ?_; go_big_quiet_step (fail); refine wpQuiet_nil ?_)
  (refine wpGrow_plain rfl ?_; go_big_quiet_step (fail); refine wpQuiet_nil ?_)
  refine wpGrow_nil ?_
  rintro _ ⟨y, rfl⟩ hF
  have hy1 := made_fact (show (madeM W.heap.size 3 (arrOf (Value.int .i64) (.int .i64 0) [] n) n).S _ y.w from hF 2)
  have hy2 := made_fact (show (madeM W.heap.size 4 (arrOf Value.bool (.bool false) [] n) n).S _ y.w from hF 5)
  obtain ⟨X, hX⟩ : ∃ X, X = y.w := ⟨_, rfl⟩
  have hb := y.bel
  rw [← hX] at hy1 hy2 hb
  rw [← hX]
  have hws : w.heap.size + 1 < W.heap.size := K3.lt
  have hg1 := hy1.2
  have hg2 := hy2.2
  have hg1x := hy1.1.lt
  have hg2x := hy2.1.lt
  have hg12 : g1 ≠ g2 := by
    rintro rfl
    have h3 := Option.some.inj (hy1.1.symm.trans hy2.1)
    injection h3 with _ h4
    exact absurd h4 (by decide)
  have hbX := HB.out.trans (hb.mono HB.out.size)
  have hinv : AllInv w g1 g2 X.heap.size n (allC c (l.take 0)) X := ⟨kp, kc, vp, vc, by rw [show (allC c (l.take 0)).1 = c from rfl, H1.out, H2.out]; exact K1.later hb, K3.later hb, hy1.1, hy2.1, A1.out.later hbX, A2.out.later hbX, fun h b off e => .inl (HKL.out h b off e), fun h b off e => .inl (HVL.out h b off e), hbX, Nat.le_refl _⟩
  have HI := Lib.hid hinv
  obtain ⟨B, hB⟩ : ∃ B, B = X.heap.size := ⟨_, rfl⟩
  rw [← hB] at HI hg1x hg2x
  clear hX hb hy1 hy2 hF hinv hbX hB K1 K3 y hmk1 hmk2
  go_wp2_with fail
  go_loopw [19] (fun i wr => ∃ k : Nat, i = .int .i64 k ∧ k ≤ n ∧ ∃ W', W' = wr ∧ Hid (AllInv w g1 g2 B n (allC c (l.take k)) W')) (fun i _ => n - (intOf i).toNat)
  case atStart => exact ⟨0, rfl, by omega, _, rfl, HI⟩
  case round =>
    obtain ⟨k, rfl, hk, wr, rfl, HI⟩ := hrel
    obtain ⟨s, hs⟩ : ∃ s, allC c (l.take k) = s := ⟨_, rfl⟩
    have hgr := allC_grow (l.take k) c
    have hlen := allC_len (l.take k) c
    rw [List.length_take, HL.out] at hgr hlen
    rw [hs] at HI hgr hlen
    obtain ⟨kp1, kc1, vp1, vc1, KB, KR, KG1, KG2, N1, N2, S1, S2, hbw, hBs⟩ := HI.out
    obtain ⟨q, hq⟩ : ∃ q, s.1 = q := ⟨_, rfl⟩
    rw [hq] at KB N1 N2 S1 S2 hgr
    obtain ⟨q0, hq0⟩ : ∃ x, q.kind = x := ⟨_, rfl⟩
    obtain ⟨nk, hnk⟩ : ∃ x, q.keys.length = x := ⟨_, rfl⟩
    obtain ⟨nv, hnv⟩ : ∃ x, q.vals.length = x := ⟨_, rfl⟩
    rw [H1.out, H2.out, hnk, hnv] at hgr
    rw [hnk, hnv] at KB
    have HS := Lib.hid hs
    have HQ := Lib.hid hq
    have Q0 := Lib.hid hq0
    have NK := Lib.hid hnk
    have NV := Lib.hid hnv
    have hnk4 : nk ≤ 30000 := by omega
    have hnv4 : nv ≤ 30000 := by omega
    have HSS := Lib.hid (And.intro S1 S2)
    have HN1 := Lib.hid N1
    have HN2 := Lib.hid N2
    have HBW := Lib.hid hbw
    have lkb := KB.lt
    have c0 : wr.cell? ⟨w.heap.size, 0, none⟩ = some (.int .i64 q.kind) := KB.cell 0
    have c1 : wr.cell? ⟨w.heap.size, 1, none⟩ = some (.slice kp1 nk kc1) := KB.cell 1
    have c2 : wr.cell? ⟨w.heap.size, 2, none⟩ = some (.slice vp1 nv vc1) := KB.cell 2
    clear hs hq hq0 hnk hnv S1 S2 N1 N2 hgr
    by_cases hlt : k < n
    · have hkl : k < l.length := by rw [HL.out]; exact hlt
      obtain ⟨bo, oo, rfl, hlo, hat⟩ := (HOD.out wr hbw).at_ k hkl
      obtain ⟨o, ho⟩ : ∃ o, l[k] = o := ⟨_, rfl⟩
      rw [ho] at hat
      obtain ⟨g0, g1', g2', g3⟩ := hat
      obtain ⟨W2, hW2⟩ : ∃ W, W = wr.alloc (Obj.cells #[.int .i64 o.kind, .int .i64 o.obj, .int .i64 o.a, .int .i64 o.b] 26) := ⟨_, rfl⟩
      have hb2 : Below wr.heap.size wr W2 := by rw [hW2]; exact below_alloc1 wr _
      have KO : Blk W2 wr.heap.size 26 #[.int .i64 o.kind, .int .i64 o.obj, .int .i64 o.a, .int .i64 o.b] := by rw [hW2]; exact Blk.made _ _ _
      have KB2 := KB.later hb2
      have KR2 := KR.later hb2
      have KG12 := KG1.later hb2
      have KG22 := KG2.later hb2
      have d0 : W2.cell? ⟨w.heap.size, 0, none⟩ = some (.int .i64 q.kind) := KB2.cell 0
      have d1 : W2.cell? ⟨w.heap.size, 1, none⟩ = some (.slice kp1 nk kc1) := KB2.cell 1
      have d2 : W2.cell? ⟨w.heap.size, 2, none⟩ = some (.slice vp1 nv vc1) := KB2.cell 2
      have o0 : W2.cell? ⟨wr.heap.size, 0, none⟩ = some (.int .i64 o.kind) := KO.cell 0
      have o1 : W2.cell? ⟨wr.heap.size, 1, none⟩ = some (.int .i64 o.obj) := KO.cell 1
      have o2 : W2.cell? ⟨wr.heap.size, 2, none⟩ = some (.int .i64 o.a) := KO.cell 2
      have o3 : W2.cell? ⟨wr.heap.size, 3, none⟩ = some (.int .i64 o.b) := KO.cell 3
      obtain ⟨r, hr⟩ : ∃ r, doC q o = r := ⟨_, rfl⟩
      have HD := Lib.hid (do_any q o nk nv NK.out NV.out kp1 vp1 kc1 vc1 W2 (HN1.out.later hb2) (HN2.out.later hb2) (by omega) (by omega))
      rw [hr] at HD
      obtain ⟨r0, hr0⟩ : ∃ x, r.1.kind = x := ⟨_, rfl⟩
      obtain ⟨nk2, hnk2⟩ : ∃ x, r.1.keys.length = x := ⟨_, rfl⟩
      obtain ⟨nv2, hnv2⟩ : ∃ x, r.1.vals.length = x := ⟨_, rfl⟩
      obtain ⟨rv, hrv⟩ : ∃ x, r.2.1 = x := ⟨_, rfl⟩
      obtain ⟨rb, hrb⟩ : ∃ x, r.2.2 = x := ⟨_, rfl⟩
      have R0 := Lib.hid hr0
      have NK2 := Lib.hid hnk2
      have NV2 := Lib.hid hnv2
      have RV := Lib.hid hrv
      have RB := Lib.hid hrb
      have hsn : allC c (l.take (k + 1)) = (r.1, s.2.1 ++ [rv], s.2.2 ++ [rb]) := by
        rw [List.take_succ_eq_append_getElem hkl, ho, allC_snoc, HS.out, HQ.out, hr, hrv, hrb]
      have HSN := Lib.hid hsn
      have hl21 : s.2.1.length = k := by rw [hlen.1]; omega
      have hl22 : s.2.2.length = k := by rw [hlen.2]; omega
      have HL1 := Lib.hid hl21
      have HL2 := Lib.hid hl22
      have HW2 := Lib.hid hW2
      have HB2 := Lib.hid hb2
      have hs2 := hb2.size
      have hkb : Hid (Blk W2 w.heap.size 24 _ ∧ Blk W2 (w.heap.size + 1) 24 _ ∧ Blk W2 g1 3 _ ∧ Blk W2 g2 4 _) := Lib.hid ⟨KB2, KR2, KG12, KG22⟩
      clear hr hr0 hnk2 hnv2 hrv hrb hsn hl21 hl22 hW2 hb2 ho KB KR KG1 KG2 KB2 KR2 KG12 KG22 KO hlen hbw
      go_wp2_with fail
      rw [← HW2.out]
      clear g0 g1' g2' g3 c0 c1 c2
      refine HD.out.mono ?_
      rintro e w3 hp3
      obtain ⟨kp2, kc2, vp2, vc2, rfl, hqk, hqv, hb3, hpk, hpv⟩ := hp3.at r0 nk2 nv2 rv rb R0.out NK2.out NV2.out RV.out RB.out
      have KB3 := hkb.out.1.later hb3
      have KR3 := hkb.out.2.1.later hb3
      have KG13 := hkb.out.2.2.1.later hb3
      have KG23 := hkb.out.2.2.2.later hb3
      have z0 : w3.cell? ⟨w.heap.size, 0, none⟩ = some (.int .i64 q.kind) := KB3.cell 0
      have z1 : w3.cell? ⟨w.heap.size, 1, none⟩ = some (.slice kp1 nk kc1) := KB3.cell 1
      have z2 : w3.cell? ⟨w.heap.size, 2, none⟩ = some (.slice vp1 nv vc1) := KB3.cell 2
      have f0 := KB3.free 0
      have f1 := KB3.free 1
      have f2 := KB3.free 2
      obtain ⟨V, hV⟩ : ∃ V, V = (((w3.setCell ⟨w.heap.size, 0, none⟩ (.int .i64 r0)).setCell ⟨w.heap.size, 1, none⟩ (.slice kp2 nk2 kc2)).setCell ⟨w.heap.size, 2, none⟩ (.slice vp2 nv2 vc2)) := ⟨_, rfl⟩
      have n1 : w.heap.size + 1 ≠ w.heap.size := by omega
      have ng1 : g1 ≠ w.heap.size := by omega
      have ng2 : g2 ≠ w.heap.size := by omega
      have KBV : Blk V w.heap.size 24 #[.int .i64 r0, .slice kp2 nk2 kc2, .slice vp2 nv2 vc2] := by rw [hV]; exact KB3.put3 _ _ _
      have KRV := show Blk V (w.heap.size + 1) 24 _ from by rw [hV]; exact ((KR3.far (p := ⟨w.heap.size, 0, none⟩) n1 _).far (p := ⟨w.heap.size, 1, none⟩) n1 _).far (p := ⟨w.heap.size, 2, none⟩) n1 _
      have KG1V := show Blk V g1 3 _ from by rw [hV]; exact ((KG13.far (p := ⟨w.heap.size, 0, none⟩) ng1 _).far (p := ⟨w.heap.size, 1, none⟩) ng1 _).far (p := ⟨w.heap.size, 2, none⟩) ng1 _
      have KG2V := show Blk V g2 4 _ from by rw [hV]; exact ((KG23.far (p := ⟨w.heap.size, 0, none⟩) ng2 _).far (p := ⟨w.heap.size, 1, none⟩) ng2 _).far (p := ⟨w.heap.size, 2, none⟩) ng2 _
      have hb23 := HBW.out.trans ((below_trans HB2.out hb3).mono HBW.out.size)
      have hbV : Below w.heap.size w V := by rw [hV]; exact below_set3 hb23 (Nat.le_refl _) _ _ _
      have hsV : V.heap.size = w3.heap.size := by rw [hV]; simp
      have hs3 := hb3.size
      have p1 : V.cell? ⟨g1, k, none⟩ = some (.int .i64 0) := (KG1V.cell k).trans (arrOf_at _ _ _ _ _ HL1.out hlt)
      have pf1 := KG1V.free k
      obtain ⟨U, hU⟩ : ∃ U, U = V.setCell ⟨g1, k, none⟩ (.int .i64 rv) := ⟨_, rfl⟩
      have KG2U := show Blk U g2 4 _ from by rw [hU]; exact KG2V.far (p := ⟨g1, k, none⟩) (Ne.symm hg12) _
      have p2 : U.cell? ⟨g2, k, none⟩ = some (.bool false) := (KG2U.cell k).trans (arrOf_at _ _ _ _ _ HL2.out hlt)
      have pf2 := KG2U.free k
      have HV := Lib.hid hV
      have HU := Lib.hid hU
      obtain ⟨T, hT⟩ : ∃ T, T = U.setCell ⟨g2, k, none⟩ (.bool rb) := ⟨_, rfl⟩
      have hinv : AllInv w g1 g2 B n (allC c (l.take (k + 1))) T := by
        rw [HSN.out]
        have far1 : ∀ b off : Nat, (b < w.heap.size ∨ B ≤ b) → b ≠ w.heap.size ∧ b ≠ g1 ∧ b ≠ g2 := fun b off h => by omega
        have sK : 0 < r.1.keys.length → ∀ b off, kp2 = some ⟨b, off, none⟩ → b < w.heap.size ∨ B ≤ b := fun h b off e => by
          rcases hpk with ⟨h1, h2⟩ | h1
          · rw [h2] at h; exact HSS.out.1 h b off (h1 ▸ e)
          · exact .inr (by have := h1 b off e; omega)
        have sV : 0 < r.1.vals.length → ∀ b off, vp2 = some ⟨b, off, none⟩ → b < w.heap.size ∨ B ≤ b := fun h b off e => by
          rcases hpv with ⟨h1, h2⟩ | h1
          · rw [h2] at h; exact HSS.out.2 h b off (h1 ▸ e)
          · exact .inr (by have := h1 b off e; omega)
        refine ⟨kp2, kc2, vp2, vc2, ?_, ?_, ?_, ?_, ?_, ?_, sK, sV, ?_, ?_⟩
        · rw [R0.out, NK2.out, NV2.out, hT, hU]; exact (KBV.far (p := ⟨g1, k, none⟩) (Ne.symm ng1) _).far (p := ⟨g2, k, none⟩) (Ne.symm ng2) _
        · rw [hT, hU]; exact (KRV.far (p := ⟨g1, k, none⟩) (by simp; omega) _).far (p := ⟨g2, k, none⟩) (by simp; omega) _
        · rw [hT, hU, ← arrOf_put _ _ _ _ _ k HL1.out hlt]; exact (KG1V.put k _).far (p := ⟨g2, k, none⟩) hg12 _
        · rw [hT, ← arrOf_put _ _ _ _ _ k HL2.out hlt]; exact KG2U.put k _
        · rw [hT, hU, hV]
          exact ((hqk.far3 _ _ _ _ (fun h b off e => (far1 b off (sK h b off e)).1)).far g1 k _ (fun h b off e => (far1 b off (sK h b off e)).2.1)).far g2 k _ (fun h b off e => (far1 b off (sK h b off e)).2.2)
        · rw [hT, hU, hV]
          exact ((hqv.far3 _ _ _ _ (fun h b off e => (far1 b off (sV h b off e)).1)).far g1 k _ (fun h b off e => (far1 b off (sV h b off e)).2.1)).far g2 k _ (fun h b off e => (far1 b off (sV h b off e)).2.2)
        · rw [hT, hU]; exact (hbV.setCell (p := ⟨g1, k, none⟩) (by simp; omega) _).setCell (p := ⟨g2, k, none⟩) (by simp; omega) _
        · rw [hT, hU]; simp; omega
      have HT := Lib.hid hT
      have HINV := Lib.hid hinv
      clear hV hU hT hinv KB3 KR3 KG13 KG23 KBV KRV KG1V KG2V KG2U hqk hqv hb3 hpk hpv hb23 hbV hsV d0 d1 d2 o0 o1 o2 o3 hp3
      rw [HV.out] at p1 pf1
      rw [HU.out, HV.out] at p2 pf2
      go_wp2_with fail
      rw [← HV.out, ← HU.out, ← HT.out]
      go_roundw
      case rel => exact ⟨k + 1, by simp, by omega, _, rfl, HINV⟩
      case measure => simp [intOf]; omega
    · obtain rfl : k = n := by omega
      have hdk : decide ((k : Int) < k) = false := by simp
      have hsR : s = R := by rw [← HS.out, ← HR.out, List.take_of_length_le (by rw [HL.out]; omega)]
      have HSR := Lib.hid hsR
      have hl21 : s.2.1.length = k := by rw [hlen.1]; omega
      have hl22 : s.2.2.length = k := by rw [hlen.2]; omega
      have M1 : Nums wr (some ⟨g1, 0, none⟩) k s.2.1 := Nums.of_blk KG1 (arrOf_end _ _ _ _ hl21) (by omega) (by unfold maxLen; omega)
      have M2 : Bls wr (some ⟨g2, 0, none⟩) k s.2.2 := Bls.of_blk KG2 (arrOf_end _ _ _ _ hl22)
      have z0 : wr.cell? ⟨w.heap.size + 1, 0, none⟩ = some (.int .i64 0) := KR.cell 0
      have z1 : wr.cell? ⟨w.heap.size + 1, 1, none⟩ = some (.slice none 0 0) := KR.cell 1
      have z2 : wr.cell? ⟨w.heap.size + 1, 2, none⟩ = some (.slice none 0 0) := KR.cell 2
      have f0 := KR.free 0
      have f1 := KR.free 1
      have f2 := KR.free 2
      have vals3 := (KR.put3 (.int .i64 q.kind) (.slice kp1 nk kc1) (.slice vp1 nv vc1))
      obtain ⟨WE, hWE⟩ : ∃ WE, WE = (((wr.setCell ⟨w.heap.size + 1, 0, none⟩ (.int .i64 q.kind)).setCell ⟨w.heap.size + 1, 1, none⟩ (.slice kp1 nk kc1)).setCell ⟨w.heap.size + 1, 2, none⟩ (.slice vp1 nv vc1)) := ⟨_, rfl⟩
      rw [← hWE] at vals3
      have far1 : ∀ b off : Nat, (b < w.heap.size ∨ B ≤ b) → b ≠ w.heap.size + 1 := fun b off h => by omega
      have E1 : Nums WE kp1 kc1 q.keys := by rw [hWE]; exact HN1.out.far3 _ _ _ _ (fun h b off e => far1 b off (HSS.out.1 h b off e))
      have E2 : Nums WE vp1 vc1 q.vals := by rw [hWE]; exact HN2.out.far3 _ _ _ _ (fun h b off e => far1 b off (HSS.out.2 h b off e))
      have E3 : Nums WE (some ⟨g1, 0, none⟩) k s.2.1 := by rw [hWE]; exact M1.far3 _ _ _ _ (fun h b off e => by injection e with e; injection e with e; omega)
      have E4 : Bls WE (some ⟨g2, 0, none⟩) k s.2.2 := Bls.of_blk (by rw [hWE]; exact ((KG2.far (p := ⟨w.heap.size + 1, 0, none⟩) (by simp; omega) _).far (p := ⟨w.heap.size + 1, 1, none⟩) (by simp; omega) _).far (p := ⟨w.heap.size + 1, 2, none⟩) (by simp; omega) _) (arrOf_end _ _ _ _ hl22)
      have hbE : Below w.heap.size w WE := by rw [hWE]; exact below_set3 hbw (by omega) _ _ _
      have e0 : WE.cell? ⟨w.heap.size + 1, 0, none⟩ = some (.int .i64 q.kind) := vals3.cell 0
      have e1 : WE.cell? ⟨w.heap.size + 1, 1, none⟩ = some (.slice kp1 nk kc1) := vals3.cell 1
      have e2 : WE.cell? ⟨w.heap.size + 1, 2, none⟩ = some (.slice vp1 nv vc1) := vals3.cell 2
      have HE := Lib.hid (And.intro E1 (And.intro E2 (And.intro E3 (And.intro E4 hbE))))
      have HWE := Lib.hid hWE
      clear hsR hl21 hl22 M1 M2 vals3 hWE E1 E2 E3 E4 hbE KB KR KG1 KG2 hlen hbw lkb
      go_wp2_with fail
      rw [← HWE.out]
      clear c0 c1 c2 z0 z1 z2 f0 f1 f2
      refine bodyPost_ret (v := .tuple #[.agg #[.int .i64 q.kind, .slice kp1 nk kc1, .slice vp1 nv vc1], .slice (some ⟨g1, 0, none⟩) k k, .slice (some ⟨g2, 0, none⟩) k k]) (by simp [results, Try.results15, go_sem, e0, e1, e2]) rfl ?_
      rw [← HSR.out]
      refine ⟨kp1, kc1, vp1, vc1, g1, g2, ?_, ?_, ?_, HE.out.2.2.1, HE.out.2.2.2.1, HE.out.2.2.2.2, by omega, by omega⟩
      · rw [HQ.out, NK.out, NV.out]
      · rw [HQ.out]; exact HE.out.1
      · rw [HQ.out]; exact HE.out.2.1
end Go.Proofs.Ythbpoagkfpalfaa
