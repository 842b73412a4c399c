/-
  LAYOUT: Of, where the conf may be.
-/
import Derived.Test.YtbaeckehchpfaaaRows
import Derived.ProofKit
import Derived.Test.YtbaeckehchpfaaaLayA
import Derived.Laws.Tables
import Derived.Laws.CopyOwn
import Derived.Deep.MidRow
import Derived.Laws.ResultCell
import Derived.Lib.EndianMore
namespace Go.Proofs.Ytbaeckehchpfaaa
open Go.ChangeShapes Go.WideShapes Go.ChangeAt Go.RowKit

theorem part_any (B : Nat) (S m c R : Int) (w : World) (hc : w.cell? ⟨B, 0, none⟩ = some (.int .i64 S)) (hf : w.frozen? ⟨B, 0, none⟩ = false) (hR : S + m * c = R) (h0 : 0 ≤ m * c ∧ m * c ≤ 100000) (hS : 0 ≤ S ∧ S ≤ 1000000) :
    Calls Try.prog 23 #[.int .i64 m, .int .i64 c, .pointer (some ⟨B, 0, none⟩)] w fun e w' => e = .returned (.int .i64 S) ∧ w' = w.setCell ⟨B, 0, none⟩ (.int .i64 R) := by
  obtain ⟨P, hP⟩ : ∃ P, m * c = P := ⟨_, rfl⟩
  rw [hP] at h0 hR
  have hRR : S + P = R := hR
  have hW : wrap64 (S + wrap64 P) = R := by unfold wrap64; omega
  have hW2 : wrap64 P = P := by unfold wrap64; omega
  have hW3 : wrap64 (m * c) = P := by rw [hP]; exact hW2
  have HR := Lib.hid hRR
  clear hR hRR hW hW2
  go_enter Try.func23, Try.ntmps23
  go_wp2_with fail
  go_ret
  exact ⟨rfl, by rw [HR.out]⟩

theorem results_cell_mid {P : Program} {fn : Func} {p u : Tmp} {ty : TypeId} {d : TypeDesc} (h : fn.results = #[.cell p ty, .tmp u]) (tmps : Array Value) (w : World) (b : Nat) (q : List Value) (v : Value)
    (hp : tmps.getD p undef = .pointer (some ⟨b, 0, none⟩)) (hv : tmps.getD u undef = v) (hc : w.rangeAt b 0 q) (hu : P.underlying ty = some d) (hd : d.isRow = true) (hi : (P.info? ty).map (·.size) = some q.length) :
    (results fn tmps).run P w = .ok (.tuple #[.agg q.toArray, v]) w := by
  rw [results_cell_tmp h, hp, hv]
  simp [asAddr, run_loadVar_mid w b 0 ty q d hc hu hd hi]

theorem layFields : Try.prog.underlying 26 = some (.struct (Try.prog.fieldsOf 26)) := by kernel_rfl
theorem lay25 : (Try.prog.info? 26).map (·.size) = some 25 := by kernel_rfl

/-- a layout's parts -/
def layC (s n b sl t ce ma st ch owner resv deque ring task cell map stack chan node size : Int) : Array Value :=
  #[.int .i64 s, .int .i64 n, .int .i64 b, .int .i64 sl, .int .i64 t, .int .i64 ce, .int .i64 ma, .int .i64 st, .int .i64 ch,
    .int .i64 0, .int .i64 1, .int .i64 2, .int .i64 3, .int .i64 4, .int .i64 owner, .int .i64 resv, .int .i64 deque, .int .i64 ring, .int .i64 task, .int .i64 cell, .int .i64 map, .int .i64 stack, .int .i64 chan, .int .i64 node, .int .i64 size]

theorem Blk.has {w : World} {b : Nat} {t : TypeId} {cs : Array Value} (h : Blk w b t cs) (i : Nat) (hi : i < cs.size) : ∃ v, w.cell? ⟨b, i, none⟩ = some v := ⟨_, (h.cell i).trans (Array.getElem?_eq_getElem hi)⟩

theorem Blk.putAll {g : Nat} {t : TypeId} : ∀ (vs : List Value) (o : Nat) (w : World) (cur : Array Value), Blk w g t cur → o + vs.length ≤ cur.size → ∃ cur', Blk (w.setCells g o vs) g t cur' ∧ cur'.size = cur.size ∧ ∀ j, cur'[j]? = if o ≤ j ∧ j < o + vs.length then vs[j - o]? else cur[j]?
  | [], o, w, cur, h, _ => ⟨cur, h, rfl, fun j => by rw [if_neg (by simp)]⟩
  | v :: r, o, w, cur, h, hl => by
    obtain ⟨c2, h1, h2, h3⟩ := Blk.putAll r (o + 1) _ _ (h.put o v) (by simp at hl ⊢; omega)
    refine ⟨c2, h1, by rw [h2]; simp, fun j => ?_⟩
    rw [h3 j]
    simp only [List.length_cons] at hl ⊢
    by_cases e1 : o + 1 ≤ j ∧ j < o + 1 + r.length
    · rw [if_pos e1, if_pos (by omega), show j - o = (j - (o + 1)) + 1 by omega, List.getElem?_cons_succ]
    · rw [if_neg e1]
      by_cases e2 : j = o
      · subst e2
        rw [if_pos (by omega), Nat.sub_self, List.getElem?_cons_zero, Array.getElem?_setIfInBounds_self, if_pos (by omega)]
      · rw [if_neg (by omega), Array.getElem?_setIfInBounds_ne (by omega)]

theorem Blk.put_whole {w : World} {g : Nat} {t : TypeId} {cur : Array Value} (h : Blk w g t cur) (vs : List Value) (hl : vs.length = cur.size) : Blk (w.setCells g 0 vs) g t vs.toArray := by
  obtain ⟨c2, h1, h2, h3⟩ := Blk.putAll vs 0 w cur h (by omega)
  have : c2 = vs.toArray := by
    apply Array.ext_getElem?
    intro j
    rw [h3 j]
    by_cases e : j < vs.length
    · rw [if_pos (by omega)]; simp
    · rw [if_neg (by omega), Array.getElem?_eq_none (by omega), Array.getElem?_eq_none (by simp; omega)]
  rw [← this]; exact h1

theorem Blk.farAll {w : World} {b g : Nat} {t : TypeId} {cur : Array Value} (hn : b ≠ g) : ∀ (vs : List Value) (o : Nat) {w : World}, Blk w b t cur → Blk (w.setCells g o vs) b t cur
  | [], _, _, h => h
  | v :: r, o, _, h => Blk.farAll (w := w) hn r (o + 1) (h.far hn v)

/-- a whole block is written anew -/
theorem store_whole (P : Program) {w : World} {g : Nat} {t : TypeId} {cur : Array Value} (h : Blk w g t cur) (vs : List Value) (hl : vs.length = cur.size) (h1 : ∀ v ∈ vs, v.oneCell' = true) :
    ∃ w', (storeCells ⟨g, 0, none⟩ vs).run P w = .ok () w' ∧ Blk w' g t vs.toArray ∧ ∀ (B : Nat) (W : World), B ≤ g → Below B W w → Below B W w' :=
  ⟨w.setRow g vs.toArray, by have := run_storeCells_from (P := P) g t vs 0 cur w h (by omega) h1; simpa using this, setRow_heap w g cur _ t _ h, fun B W hB hb => below_setRow hb hB _⟩

theorem fin_lay (k0 k1 k2 k3 k4 k5 k6 k7 k8 z v0 v1 v2 v3 v4 v5 v6 v7 v8 v9 v10 v11 v12 v13 v14 v15 : Value) : (((((((((((((((((#[k0, k1, k2, k3, k4, k5, k6, k7, k8, z, z, z, z, z, z, z, z, z, z, z, z, z, z, z, z] : Array Value).setIfInBounds 9 v0).setIfInBounds 10 v1).setIfInBounds 11 v2).setIfInBounds 12 v3).setIfInBounds 13 v4).setIfInBounds 14 v5).setIfInBounds 15 v6).setIfInBounds 16 v7).setIfInBounds 17 v8).setIfInBounds 18 v9).setIfInBounds 19 v10).setIfInBounds 20 v11).setIfInBounds 21 v12).setIfInBounds 22 v13).setIfInBounds 23 v14).setIfInBounds 24 v15) = #[k0, k1, k2, k3, k4, k5, k6, k7, k8, v0, v1, v2, v3, v4, v5, v6, v7, v8, v9, v10, v11, v12, v13, v14, v15] := by kernel_rfl

set_option maxRecDepth 100000 in
set_option maxHeartbeats 40000000 in
theorem of_yes (s n b sl t ce ma st ch : Int) (h : MayOk s b sl t ce ma st ch) (hn : ma + ch ≤ n ∧ n ≤ 1000) (rc p1 p2 p3 : Int) (hrc : cellsP (ringsP t) = rc) (hp1 : ma * (2 + b) = p1) (hp2 : st * (1 + sl) = p2) (hp3 : s * rc = p3) (w : World)
    (r5 r6 r7 r8 r9 r10 r11 r12 r13 r14 r15 : Int) (h5 : r5 = 4 + s) (h6 : r6 = 4 + 2 * s) (h7 : r7 = 4 + 5 * s) (h8 : r8 = 4 + 8 * s) (h9 : r9 = r8 + p3) (h10 : r10 = r9 + 4 * t) (h11 : r11 = r10 + ce) (h12 : r12 = r11 + p1) (h13 : r13 = r12 + p2) (h14 : r14 = r13 + 2 * ch) (h15 : r15 = r14 + 8 * n) :
    Calls Try.prog 10 #[.agg (confC s n b sl t ce ma st ch)] w fun e w' => e = .returned (.tuple #[.agg (layC s n b sl t ce ma st ch r5 r6 r7 r8 r9 r10 r11 r12 r13 r14 r15), .int .i64 0]) ∧ Below w.heap.size w w' := by
  have HM := Lib.hid h
  obtain ⟨hs, hb, hsl, ht, hce, hma, hst, hch, -⟩ := h
  have hrc2 : 4 ≤ rc ∧ rc ≤ 124 := by
    rw [← hrc]; unfold ringsP
    repeat' split
    all_goals (unfold cellsP; simp)
  have hrg : 1 ≤ ringsP t ∧ ringsP t ≤ 5 := by
    unfold ringsP
    repeat' split
    all_goals omega
  have q1 : 0 ≤ p1 ∧ p1 ≤ 528 := by
    rw [← hp1]
    exact ⟨Int.mul_nonneg (by omega) (by omega), by have := Int.mul_le_mul (show ma ≤ 8 by omega) (show 2 + b ≤ 66 by omega) (by omega) (by omega); omega⟩
  have q2 : 0 ≤ p2 ∧ p2 ≤ 72 := by
    rw [← hp2]
    exact ⟨Int.mul_nonneg (by omega) (by omega), by have := Int.mul_le_mul (show st ≤ 8 by omega) (show 1 + sl ≤ 9 by omega) (by omega) (by omega); omega⟩
  have q3 : 0 ≤ p3 ∧ p3 ≤ 992 := by
    rw [← hp3]
    exact ⟨Int.mul_nonneg (by omega) (by omega), by have := Int.mul_le_mul (show s ≤ 8 by omega) (show rc ≤ 124 by omega) (by omega) (by omega); omega⟩
  have hn0 : 0 ≤ n := by omega
  have d1 : decide (n < ma + ch) = false := by simp; omega
  have d2 : decide (1000 < n) = false := by simp; omega
  have b5 : 0 ≤ r5 ∧ r5 ≤ 100000 := by omega
  have b6 : 0 ≤ r6 ∧ r6 ≤ 100000 := by omega
  have b7 : 0 ≤ r7 ∧ r7 ≤ 100000 := by omega
  have b8 : 0 ≤ r8 ∧ r8 ≤ 100000 := by omega
  have b9 : 0 ≤ r9 ∧ r9 ≤ 100000 := by omega
  have b10 : 0 ≤ r10 ∧ r10 ≤ 100000 := by omega
  have b11 : 0 ≤ r11 ∧ r11 ≤ 100000 := by omega
  have b12 : 0 ≤ r12 ∧ r12 ≤ 100000 := by omega
  have b13 : 0 ≤ r13 ∧ r13 ≤ 100000 := by omega
  have b14 : 0 ≤ r14 ∧ r14 ≤ 100000 := by omega
  have b15 : 0 ≤ r15 ∧ r15 ≤ 100000 := by omega
  have H5 := Lib.hid h5
  have H6 := Lib.hid h6
  have H7 := Lib.hid h7
  have H8 := Lib.hid h8
  have H9 := Lib.hid h9
  have H10 := Lib.hid h10
  have H11 := Lib.hid h11
  have H12 := Lib.hid h12
  have H13 := Lib.hid h13
  have H14 := Lib.hid h14
  have H15 := Lib.hid h15
  have B5 := Lib.hid b5
  have B6 := Lib.hid b6
  have B7 := Lib.hid b7
  have B8 := Lib.hid b8
  have B9 := Lib.hid b9
  have B10 := Lib.hid b10
  have B11 := Lib.hid b11
  have B12 := Lib.hid b12
  have B13 := Lib.hid b13
  have B14 := Lib.hid b14
  have B15 := Lib.hid b15
  have Xs := Lib.hid hs
  have Xt := Lib.hid ht
  have Xce := Lib.hid hce
  have Xma := Lib.hid hma
  have Xst := Lib.hid hst
  have Xch := Lib.hid hch
  have XN := Lib.hid hn
  have Q3 := Lib.hid q3
  have Q1 := Lib.hid q1
  have Q2 := Lib.hid q2
  have HP1 := Lib.hid hp1
  have HP2 := Lib.hid hp2
  have HP3 := Lib.hid hp3
  have HRC := Lib.hid hrc
  obtain ⟨rg, hrgv⟩ : ∃ rg, ringsP t = rg := ⟨_, rfl⟩
  rw [hrgv] at hrg
  have HRG := Lib.hid hrgv
  have XRG := Lib.hid hrg
  clear hp1 hp2 hp3 hrc hrgv h5 h6 h7 h8 h9 h10 h11 h12 h13 h14 h15 b5 b6 b7 b8 b9 b10 b11 b12 b13 b14 b15 q1 q2 q3 hrc2 hrg
  obtain ⟨CC, hCC⟩ : ∃ CC : Array Value, CC = #[.int .i64 s, .int .i64 n, .int .i64 b, .int .i64 sl, .int .i64 t, .int .i64 ce, .int .i64 ma, .int .i64 st, .int .i64 ch] := ⟨_, rfl⟩
  have hcc0 : Hid (CC[0]? = some (.int .i64 s)) := Lib.hid (by rw [hCC]; rfl)
  have hcc1 : Hid (CC[1]? = some (.int .i64 n)) := Lib.hid (by rw [hCC]; rfl)
  have hcc2 : Hid (CC[2]? = some (.int .i64 b)) := Lib.hid (by rw [hCC]; rfl)
  have hcc3 : Hid (CC[3]? = some (.int .i64 sl)) := Lib.hid (by rw [hCC]; rfl)
  have hcc4 : Hid (CC[4]? = some (.int .i64 t)) := Lib.hid (by rw [hCC]; rfl)
  have hcc5 : Hid (CC[5]? = some (.int .i64 ce)) := Lib.hid (by rw [hCC]; rfl)
  have hcc6 : Hid (CC[6]? = some (.int .i64 ma)) := Lib.hid (by rw [hCC]; rfl)
  have hcc7 : Hid (CC[7]? = some (.int .i64 st)) := Lib.hid (by rw [hCC]; rfl)
  have hcc8 : Hid (CC[8]? = some (.int .i64 ch)) := Lib.hid (by rw [hCC]; rfl)
  obtain ⟨ZZ, hZZ⟩ : ∃ ZZ : Array Value, ZZ = #[.int .i64 0, .int .i64 0, .int .i64 0, .int .i64 0, .int .i64 0, .int .i64 0, .int .i64 0, .int .i64 0, .int .i64 0, .int .i64 0, .int .i64 0, .int .i64 0, .int .i64 0, .int .i64 0, .int .i64 0, .int .i64 0, .int .i64 0, .int .i64 0, .int .i64 0, .int .i64 0, .int .i64 0, .int .i64 0, .int .i64 0, .int .i64 0, .int .i64 0] := ⟨_, rfl⟩
  have hzs : Hid (ZZ.size = 25) := Lib.hid (by rw [hZZ]; rfl)
  unfold confC
  go_enter Try.func10, Try.ntmps10
  go_wp2_with fail
  obtain ⟨V, hV⟩ : ∃ V, V = (w.alloc (Obj.cells #[.int .i64 s, .int .i64 n, .int .i64 b, .int .i64 sl, .int .i64 t, .int .i64 ce, .int .i64 ma, .int .i64 st, .int .i64 ch] 23)).alloc (Obj.cells #[.int .i64 0, .int .i64 0, .int .i64 0, .int .i64 0, .int .i64 0, .int .i64 0, .int .i64 0, .int .i64 0, .int .i64 0, .int .i64 0, .int .i64 0, .int .i64 0, .int .i64 0, .int .i64 0, .int .i64 0, .int .i64 0, .int .i64 0, .int .i64 0, .int .i64 0, .int .i64 0, .int .i64 0, .int .i64 0, .int .i64 0, .int .i64 0, .int .i64 0] 26) := ⟨_, rfl⟩
  rw [← hV]
  have HC0 : Blk V w.heap.size 23 CC := by rw [hV, hCC]; exact (Blk.made w _ _).alloc _
  have HZ0 : Blk V (w.heap.size + 1) 26 ZZ := by
    rw [hV, hZZ]
    have := Blk.made (w.alloc (Obj.cells #[.int .i64 s, .int .i64 n, .int .i64 b, .int .i64 sl, .int .i64 t, .int .i64 ce, .int .i64 ma, .int .i64 st, .int .i64 ch] 23)) 26 #[.int .i64 0, .int .i64 0, .int .i64 0, .int .i64 0, .int .i64 0, .int .i64 0, .int .i64 0, .int .i64 0, .int .i64 0, .int .i64 0, .int .i64 0, .int .i64 0, .int .i64 0, .int .i64 0, .int .i64 0, .int .i64 0, .int .i64 0, .int .i64 0, .int .i64 0, .int .i64 0, .int .i64 0, .int .i64 0, .int .i64 0, .int .i64 0, .int .i64 0]
    simpa [go_sem] using this
  have hbV : Below w.heap.size w V := by rw [hV]; exact ((Below.refl _ w).alloc (Nat.le_refl _) _).alloc (by simp [go_sem]) _
  clear hV hZZ hCC
  refine (may_yes s n b sl t ce ma st ch HM.out V).mono ?_
  rintro e w2 ⟨rfl, hb2⟩
  have hb02 := hbV.trans (hb2.mono hbV.size)
  have HC2 := HC0.later hb2
  have HZ2 := HZ0.later hb2
  have hlt2 : w.heap.size + 1 < w2.heap.size := HZ2.lt
  clear HC0 HZ0
  have c0 : w2.cell? ⟨w.heap.size, 0, none⟩ = some (.int .i64 s) := (HC2.cell 0).trans hcc0.out
  have y0 : ∀ o, (w2.alloc o).cell? ⟨w.heap.size, 0, none⟩ = some (.int .i64 s) := fun o => get_alloc c0
  have c1 : w2.cell? ⟨w.heap.size, 1, none⟩ = some (.int .i64 n) := (HC2.cell 1).trans hcc1.out
  have y1 : ∀ o, (w2.alloc o).cell? ⟨w.heap.size, 1, none⟩ = some (.int .i64 n) := fun o => get_alloc c1
  have c2 : w2.cell? ⟨w.heap.size, 2, none⟩ = some (.int .i64 b) := (HC2.cell 2).trans hcc2.out
  have y2 : ∀ o, (w2.alloc o).cell? ⟨w.heap.size, 2, none⟩ = some (.int .i64 b) := fun o => get_alloc c2
  have c3 : w2.cell? ⟨w.heap.size, 3, none⟩ = some (.int .i64 sl) := (HC2.cell 3).trans hcc3.out
  have y3 : ∀ o, (w2.alloc o).cell? ⟨w.heap.size, 3, none⟩ = some (.int .i64 sl) := fun o => get_alloc c3
  have c4 : w2.cell? ⟨w.heap.size, 4, none⟩ = some (.int .i64 t) := (HC2.cell 4).trans hcc4.out
  have y4 : ∀ o, (w2.alloc o).cell? ⟨w.heap.size, 4, none⟩ = some (.int .i64 t) := fun o => get_alloc c4
  have c5 : w2.cell? ⟨w.heap.size, 5, none⟩ = some (.int .i64 ce) := (HC2.cell 5).trans hcc5.out
  have y5 : ∀ o, (w2.alloc o).cell? ⟨w.heap.size, 5, none⟩ = some (.int .i64 ce) := fun o => get_alloc c5
  have c6 : w2.cell? ⟨w.heap.size, 6, none⟩ = some (.int .i64 ma) := (HC2.cell 6).trans hcc6.out
  have y6 : ∀ o, (w2.alloc o).cell? ⟨w.heap.size, 6, none⟩ = some (.int .i64 ma) := fun o => get_alloc c6
  have c7 : w2.cell? ⟨w.heap.size, 7, none⟩ = some (.int .i64 st) := (HC2.cell 7).trans hcc7.out
  have y7 : ∀ o, (w2.alloc o).cell? ⟨w.heap.size, 7, none⟩ = some (.int .i64 st) := fun o => get_alloc c7
  have c8 : w2.cell? ⟨w.heap.size, 8, none⟩ = some (.int .i64 ch) := (HC2.cell 8).trans hcc8.out
  have y8 : ∀ o, (w2.alloc o).cell? ⟨w.heap.size, 8, none⟩ = some (.int .i64 ch) := fun o => get_alloc c8
  have hnew : ∀ o1, ((w2.alloc o1).alloc (Obj.cells #[.int .i64 0, .int .i64 0, .int .i64 0, .int .i64 0, .int .i64 0, .int .i64 0, .int .i64 0, .int .i64 0, .int .i64 0, .int .i64 0, .int .i64 0, .int .i64 0, .int .i64 0, .int .i64 0, .int .i64 0, .int .i64 0, .int .i64 0, .int .i64 0, .int .i64 0, .int .i64 0, .int .i64 0, .int .i64 0, .int .i64 0, .int .i64 0, .int .i64 0] 26)).there (w2.heap.size + 1) 0 25 := fun o1 j hj => by
    have HN : Blk ((w2.alloc o1).alloc (Obj.cells #[.int .i64 0, .int .i64 0, .int .i64 0, .int .i64 0, .int .i64 0, .int .i64 0, .int .i64 0, .int .i64 0, .int .i64 0, .int .i64 0, .int .i64 0, .int .i64 0, .int .i64 0, .int .i64 0, .int .i64 0, .int .i64 0, .int .i64 0, .int .i64 0, .int .i64 0, .int .i64 0, .int .i64 0, .int .i64 0, .int .i64 0, .int .i64 0, .int .i64 0] 26)) (w2.heap.size + 1) 26 #[.int .i64 0, .int .i64 0, .int .i64 0, .int .i64 0, .int .i64 0, .int .i64 0, .int .i64 0, .int .i64 0, .int .i64 0, .int .i64 0, .int .i64 0, .int .i64 0, .int .i64 0, .int .i64 0, .int .i64 0, .int .i64 0, .int .i64 0, .int .i64 0, .int .i64 0, .int .i64 0, .int .i64 0, .int .i64 0, .int .i64 0, .int .i64 0, .int .i64 0] := by
      have := Blk.made (w2.alloc o1) 26 #[.int .i64 0, .int .i64 0, .int .i64 0, .int .i64 0, .int .i64 0, .int .i64 0, .int .i64 0, .int .i64 0, .int .i64 0, .int .i64 0, .int .i64 0, .int .i64 0, .int .i64 0, .int .i64 0, .int .i64 0, .int .i64 0, .int .i64 0, .int .i64 0, .int .i64 0, .int .i64 0, .int .i64 0, .int .i64 0, .int .i64 0, .int .i64 0, .int .i64 0]
      simpa [go_sem] using this
    rw [Nat.zero_add]
    obtain ⟨u, hu⟩ := HN.has j hj
    exact ⟨by rw [hu]; rfl, HN.free j⟩
  have hon0 : (#[.int .i64 s, .int .i64 n, .int .i64 b, .int .i64 sl, .int .i64 t, .int .i64 ce, .int .i64 ma, .int .i64 st, .int .i64 ch, .int .i64 0, .int .i64 0, .int .i64 0, .int .i64 0, .int .i64 0, .int .i64 0, .int .i64 0, .int .i64 0, .int .i64 0, .int .i64 0, .int .i64 0, .int .i64 0, .int .i64 0, .int .i64 0, .int .i64 0, .int .i64 0] : Array Value).all (·.oneCell') = true := by simp [Value.oneCell']
  have Hnew := Lib.hid hnew
  have Hon0 := Lib.hid hon0
  clear hnew hon0
  go_wp2_with ((with_reducible (show wpList _ _ _ ({ dst := none, op := Op.store _ _ _, type := _, pos := _, after := _, guard := none } :: _) _ _)); refine wpList_store_mid rfl 26 _ _ rfl (w2.heap.size + 1) 0 #[.int .i64 s, .int .i64 n, .int .i64 b, .int .i64 sl, .int .i64 t, .int .i64 ce, .int .i64 ma, .int .i64 st, .int .i64 ch, .int .i64 0, .int .i64 0, .int .i64 0, .int .i64 0, .int .i64 0, .int .i64 0, .int .i64 0, .int .i64 0, .int .i64 0, .int .i64 0, .int .i64 0, .int .i64 0, .int .i64 0, .int .i64 0, .int .i64 0, .int .i64 0] rfl rfl (Hnew.out _) lay25 Hon0.out ?_)
  obtain ⟨W0, hW0⟩ : ∃ W0, W0 = ((w2.alloc (Obj.cells #[.int .i64 0] 3)).alloc (Obj.cells #[.int .i64 0, .int .i64 0, .int .i64 0, .int .i64 0, .int .i64 0, .int .i64 0, .int .i64 0, .int .i64 0, .int .i64 0, .int .i64 0, .int .i64 0, .int .i64 0, .int .i64 0, .int .i64 0, .int .i64 0, .int .i64 0, .int .i64 0, .int .i64 0, .int .i64 0, .int .i64 0, .int .i64 0, .int .i64 0, .int .i64 0, .int .i64 0, .int .i64 0] 26)).setCells (w2.heap.size + 1) 0 [.int .i64 s, .int .i64 n, .int .i64 b, .int .i64 sl, .int .i64 t, .int .i64 ce, .int .i64 ma, .int .i64 st, .int .i64 ch, .int .i64 0, .int .i64 0, .int .i64 0, .int .i64 0, .int .i64 0, .int .i64 0, .int .i64 0, .int .i64 0, .int .i64 0, .int .i64 0, .int .i64 0, .int .i64 0, .int .i64 0, .int .i64 0, .int .i64 0, .int .i64 0] := ⟨_, rfl⟩
  rw [← hW0]
  obtain ⟨L0, hL0⟩ : ∃ L0 : Array Value, L0 = #[.int .i64 s, .int .i64 n, .int .i64 b, .int .i64 sl, .int .i64 t, .int .i64 ce, .int .i64 ma, .int .i64 st, .int .i64 ch, .int .i64 0, .int .i64 0, .int .i64 0, .int .i64 0, .int .i64 0, .int .i64 0, .int .i64 0, .int .i64 0, .int .i64 0, .int .i64 0, .int .i64 0, .int .i64 0, .int .i64 0, .int .i64 0, .int .i64 0, .int .i64 0] := ⟨_, rfl⟩
  have HS0 : Blk W0 w2.heap.size 3 #[.int .i64 0] := by rw [hW0]; exact Blk.farAll (w := w) (by omega) _ _ ((Blk.made w2 _ _).alloc _)
  have HL0 : Blk W0 (w2.heap.size + 1) 26 L0 := by
    rw [hW0, hL0]
    have := Blk.made (w2.alloc (Obj.cells #[.int .i64 0] 3)) 26 #[.int .i64 0, .int .i64 0, .int .i64 0, .int .i64 0, .int .i64 0, .int .i64 0, .int .i64 0, .int .i64 0, .int .i64 0, .int .i64 0, .int .i64 0, .int .i64 0, .int .i64 0, .int .i64 0, .int .i64 0, .int .i64 0, .int .i64 0, .int .i64 0, .int .i64 0, .int .i64 0, .int .i64 0, .int .i64 0, .int .i64 0, .int .i64 0, .int .i64 0]
    have h2 : Blk ((w2.alloc (Obj.cells #[.int .i64 0] 3)).alloc (Obj.cells #[.int .i64 0, .int .i64 0, .int .i64 0, .int .i64 0, .int .i64 0, .int .i64 0, .int .i64 0, .int .i64 0, .int .i64 0, .int .i64 0, .int .i64 0, .int .i64 0, .int .i64 0, .int .i64 0, .int .i64 0, .int .i64 0, .int .i64 0, .int .i64 0, .int .i64 0, .int .i64 0, .int .i64 0, .int .i64 0, .int .i64 0, .int .i64 0, .int .i64 0] 26)) (w2.heap.size + 1) 26 #[.int .i64 0, .int .i64 0, .int .i64 0, .int .i64 0, .int .i64 0, .int .i64 0, .int .i64 0, .int .i64 0, .int .i64 0, .int .i64 0, .int .i64 0, .int .i64 0, .int .i64 0, .int .i64 0, .int .i64 0, .int .i64 0, .int .i64 0, .int .i64 0, .int .i64 0, .int .i64 0, .int .i64 0, .int .i64 0, .int .i64 0, .int .i64 0, .int .i64 0] := by simpa [go_sem] using this
    exact Blk.put_whole h2 [.int .i64 s, .int .i64 n, .int .i64 b, .int .i64 sl, .int .i64 t, .int .i64 ce, .int .i64 ma, .int .i64 st, .int .i64 ch, .int .i64 0, .int .i64 0, .int .i64 0, .int .i64 0, .int .i64 0, .int .i64 0, .int .i64 0, .int .i64 0, .int .i64 0, .int .i64 0, .int .i64 0, .int .i64 0, .int .i64 0, .int .i64 0, .int .i64 0, .int .i64 0] rfl
  have HC0 : Blk W0 w.heap.size 23 CC := by rw [hW0]; exact Blk.farAll (w := w) (by omega) _ _ ((HC2.alloc _).alloc _)
  have HZ0 : Blk W0 (w.heap.size + 1) 26 ZZ := by rw [hW0]; exact Blk.farAll (w := w) (by omega) _ _ ((HZ2.alloc _).alloc _)
  have HB0 : Below w.heap.size w W0 := by rw [hW0]; exact ((hb02.alloc hb02.size _).alloc (by simp [go_sem]; exact Nat.le_succ_of_le hb02.size) _).trans (Lib.below_setCells_w (by omega) _ _ _)
  have hs0 : Hid (L0.size = 25) := Lib.hid (by rw [hL0]; rfl)
  have E0 := Lib.hid hL0
  clear hL0 hW0 HC2 HZ2 c0 c1 c2 c3 c4 c5 c6 c7 c8 y0 y1 y2 y3 y4 y5 y6 y7 y8
  have nSL : w2.heap.size ≠ w2.heap.size + 1 := by omega
  have nLS : w2.heap.size + 1 ≠ w2.heap.size := by omega
  have nCS : w.heap.size ≠ w2.heap.size := by omega
  have nCL : w.heap.size ≠ w2.heap.size + 1 := by omega
  have nZS : w.heap.size + 1 ≠ w2.heap.size := by omega
  have nZL : w.heap.size + 1 ≠ w2.heap.size + 1 := by omega
  have lBS : w.heap.size ≤ w2.heap.size := by omega
  have lBL : w.heap.size ≤ w2.heap.size + 1 := by omega
  have NSL := Lib.hid nSL
  have NLS := Lib.hid nLS
  have NCS := Lib.hid nCS
  have NCL := Lib.hid nCL
  have NZS := Lib.hid nZS
  have NZL := Lib.hid nZL
  clear nSL nLS nCS nCL nZS nZL hn d1 d2 hn0 hs ht hce hma hst hch
  generalize Value.agg #[.int .i64 s, .int .i64 n, .int .i64 b, .int .i64 sl, .int .i64 t, .int .i64 ce, .int .i64 ma, .int .i64 st, .int .i64 ch, .int .i64 0, .int .i64 0, .int .i64 0, .int .i64 0, .int .i64 0, .int .i64 0, .int .i64 0, .int .i64 0, .int .i64 0, .int .i64 0, .int .i64 0, .int .i64 0, .int .i64 0, .int .i64 0, .int .i64 0, .int .i64 0] = q28
  generalize Value.agg #[.int .i64 s, .int .i64 n, .int .i64 b, .int .i64 sl, .int .i64 t, .int .i64 ce, .int .i64 ma, .int .i64 st, .int .i64 ch] = q27
  obtain ⟨u0, z0⟩ : ∃ u, (W0.setCell ⟨w2.heap.size, 0, none⟩ (.int .i64 1)).cell? ⟨w2.heap.size + 1, 9, none⟩ = some u := (HL0.far NLS.out _).has 9 (by rw [hs0.out]; omega)
  have f0 : (W0.setCell ⟨w2.heap.size, 0, none⟩ (.int .i64 1)).frozen? ⟨w2.heap.size + 1, 9, none⟩ = false := (HL0.far NLS.out _).free 9
  refine (part_any w2.heap.size 0 1 1 1 _ (HS0.cell 0) (HS0.free 0) (by omega) (by omega) (by omega)).mono ?_
  rintro e w' ⟨rfl, rfl⟩
  go_wp2_with fail
  obtain ⟨W1, hW1⟩ : ∃ W1, W1 = (W0.setCell ⟨w2.heap.size, 0, none⟩ (.int .i64 1)).setCell ⟨w2.heap.size + 1, 9, none⟩ (.int .i64 0) := ⟨_, rfl⟩
  rw [← hW1]
  obtain ⟨L1, hL1⟩ : ∃ L, L = L0.setIfInBounds 9 (.int .i64 0) := ⟨_, rfl⟩
  have HS1 : Blk W1 w2.heap.size 3 #[.int .i64 1] := by rw [hW1]; exact (HS0.put 0 _).far NSL.out _
  have HL1 : Blk W1 (w2.heap.size + 1) 26 L1 := by rw [hW1, hL1]; exact (HL0.far NLS.out _).put 9 _
  have HC1 : Blk W1 w.heap.size 23 CC := by rw [hW1]; exact (HC0.far NCS.out _).far NCL.out _
  have HZ1 : Blk W1 (w.heap.size + 1) 26 ZZ := by rw [hW1]; exact (HZ0.far NZS.out _).far NZL.out _
  have HB1 : Below w.heap.size w W1 := by rw [hW1]; exact (HB0.setCell lBS _).setCell lBL _
  have hs1 : Hid (L1.size = 25) := Lib.hid (by rw [hL1, Array.size_setIfInBounds, hs0.out])
  have E1 := Lib.hid hL1
  clear hW1 hL1 HS0 HL0 HC0 HZ0 HB0 z0 f0
  obtain ⟨u1, z1⟩ : ∃ u, (W1.setCell ⟨w2.heap.size, 0, none⟩ (.int .i64 2)).cell? ⟨w2.heap.size + 1, 10, none⟩ = some u := (HL1.far NLS.out _).has 10 (by rw [hs1.out]; omega)
  have f1 : (W1.setCell ⟨w2.heap.size, 0, none⟩ (.int .i64 2)).frozen? ⟨w2.heap.size + 1, 10, none⟩ = false := (HL1.far NLS.out _).free 10
  refine (part_any w2.heap.size 1 1 1 2 _ (HS1.cell 0) (HS1.free 0) (by omega) (by omega) (by omega)).mono ?_
  rintro e w' ⟨rfl, rfl⟩
  go_wp2_with fail
  obtain ⟨W2, hW2⟩ : ∃ W2, W2 = (W1.setCell ⟨w2.heap.size, 0, none⟩ (.int .i64 2)).setCell ⟨w2.heap.size + 1, 10, none⟩ (.int .i64 1) := ⟨_, rfl⟩
  rw [← hW2]
  obtain ⟨L2, hL2⟩ : ∃ L, L = L1.setIfInBounds 10 (.int .i64 1) := ⟨_, rfl⟩
  have HS2 : Blk W2 w2.heap.size 3 #[.int .i64 2] := by rw [hW2]; exact (HS1.put 0 _).far NSL.out _
  have HL2 : Blk W2 (w2.heap.size + 1) 26 L2 := by rw [hW2, hL2]; exact (HL1.far NLS.out _).put 10 _
  have HC2 : Blk W2 w.heap.size 23 CC := by rw [hW2]; exact (HC1.far NCS.out _).far NCL.out _
  have HZ2 : Blk W2 (w.heap.size + 1) 26 ZZ := by rw [hW2]; exact (HZ1.far NZS.out _).far NZL.out _
  have HB2 : Below w.heap.size w W2 := by rw [hW2]; exact (HB1.setCell lBS _).setCell lBL _
  have hs2 : Hid (L2.size = 25) := Lib.hid (by rw [hL2, Array.size_setIfInBounds, hs1.out])
  have E2 := Lib.hid hL2
  clear hW2 hL2 HS1 HL1 HC1 HZ1 HB1 z1 f1
  obtain ⟨u2, z2⟩ : ∃ u, (W2.setCell ⟨w2.heap.size, 0, none⟩ (.int .i64 3)).cell? ⟨w2.heap.size + 1, 11, none⟩ = some u := (HL2.far NLS.out _).has 11 (by rw [hs2.out]; omega)
  have f2 : (W2.setCell ⟨w2.heap.size, 0, none⟩ (.int .i64 3)).frozen? ⟨w2.heap.size + 1, 11, none⟩ = false := (HL2.far NLS.out _).free 11
  refine (part_any w2.heap.size 2 1 1 3 _ (HS2.cell 0) (HS2.free 0) (by omega) (by omega) (by omega)).mono ?_
  rintro e w' ⟨rfl, rfl⟩
  go_wp2_with fail
  obtain ⟨W3, hW3⟩ : ∃ W3, W3 = (W2.setCell ⟨w2.heap.size, 0, none⟩ (.int .i64 3)).setCell ⟨w2.heap.size + 1, 11, none⟩ (.int .i64 2) := ⟨_, rfl⟩
  rw [← hW3]
  obtain ⟨L3, hL3⟩ : ∃ L, L = L2.setIfInBounds 11 (.int .i64 2) := ⟨_, rfl⟩
  have HS3 : Blk W3 w2.heap.size 3 #[.int .i64 3] := by rw [hW3]; exact (HS2.put 0 _).far NSL.out _
  have HL3 : Blk W3 (w2.heap.size + 1) 26 L3 := by rw [hW3, hL3]; exact (HL2.far NLS.out _).put 11 _
  have HC3 : Blk W3 w.heap.size 23 CC := by rw [hW3]; exact (HC2.far NCS.out _).far NCL.out _
  have HZ3 : Blk W3 (w.heap.size + 1) 26 ZZ := by rw [hW3]; exact (HZ2.far NZS.out _).far NZL.out _
  have HB3 : Below w.heap.size w W3 := by rw [hW3]; exact (HB2.setCell lBS _).setCell lBL _
  have hs3 : Hid (L3.size = 25) := Lib.hid (by rw [hL3, Array.size_setIfInBounds, hs2.out])
  have E3 := Lib.hid hL3
  clear hW3 hL3 HS2 HL2 HC2 HZ2 HB2 z2 f2
  obtain ⟨u3, z3⟩ : ∃ u, (W3.setCell ⟨w2.heap.size, 0, none⟩ (.int .i64 4)).cell? ⟨w2.heap.size + 1, 12, none⟩ = some u := (HL3.far NLS.out _).has 12 (by rw [hs3.out]; omega)
  have f3 : (W3.setCell ⟨w2.heap.size, 0, none⟩ (.int .i64 4)).frozen? ⟨w2.heap.size + 1, 12, none⟩ = false := (HL3.far NLS.out _).free 12
  have c0 : ((W3.setCell ⟨w2.heap.size, 0, none⟩ (.int .i64 4)).setCell ⟨w2.heap.size + 1, 12, none⟩ (.int .i64 3)).cell? ⟨w.heap.size, 0, none⟩ = some (.int .i64 s) := (((HC3.far NCS.out _).far NCL.out _).cell 0).trans hcc0.out
  refine (part_any w2.heap.size 3 1 1 4 _ (HS3.cell 0) (HS3.free 0) (by omega) (by omega) (by omega)).mono ?_
  rintro e w' ⟨rfl, rfl⟩
  go_wp2_with fail
  obtain ⟨W4, hW4⟩ : ∃ W4, W4 = (W3.setCell ⟨w2.heap.size, 0, none⟩ (.int .i64 4)).setCell ⟨w2.heap.size + 1, 12, none⟩ (.int .i64 3) := ⟨_, rfl⟩
  rw [← hW4]
  obtain ⟨L4, hL4⟩ : ∃ L, L = L3.setIfInBounds 12 (.int .i64 3) := ⟨_, rfl⟩
  have HS4 : Blk W4 w2.heap.size 3 #[.int .i64 4] := by rw [hW4]; exact (HS3.put 0 _).far NSL.out _
  have HL4 : Blk W4 (w2.heap.size + 1) 26 L4 := by rw [hW4, hL4]; exact (HL3.far NLS.out _).put 12 _
  have HC4 : Blk W4 w.heap.size 23 CC := by rw [hW4]; exact (HC3.far NCS.out _).far NCL.out _
  have HZ4 : Blk W4 (w.heap.size + 1) 26 ZZ := by rw [hW4]; exact (HZ3.far NZS.out _).far NZL.out _
  have HB4 : Below w.heap.size w W4 := by rw [hW4]; exact (HB3.setCell lBS _).setCell lBL _
  have hs4 : Hid (L4.size = 25) := Lib.hid (by rw [hL4, Array.size_setIfInBounds, hs3.out])
  have E4 := Lib.hid hL4
  clear hW4 hL4 HS3 HL3 HC3 HZ3 HB3 z3 f3 c0
  obtain ⟨u4, z4⟩ : ∃ u, (W4.setCell ⟨w2.heap.size, 0, none⟩ (.int .i64 r5)).cell? ⟨w2.heap.size + 1, 13, none⟩ = some u := (HL4.far NLS.out _).has 13 (by rw [hs4.out]; omega)
  have f4 : (W4.setCell ⟨w2.heap.size, 0, none⟩ (.int .i64 r5)).frozen? ⟨w2.heap.size + 1, 13, none⟩ = false := (HL4.far NLS.out _).free 13
  have c0 : ((W4.setCell ⟨w2.heap.size, 0, none⟩ (.int .i64 r5)).setCell ⟨w2.heap.size + 1, 13, none⟩ (.int .i64 4)).cell? ⟨w.heap.size, 0, none⟩ = some (.int .i64 s) := (((HC4.far NCS.out _).far NCL.out _).cell 0).trans hcc0.out
  refine (part_any w2.heap.size 4 s 1 r5 _ (HS4.cell 0) (HS4.free 0) (by rw [H5.out]; omega) (by have := Xs.out; omega) (by omega)).mono ?_
  rintro e w' ⟨rfl, rfl⟩
  go_wp2_with fail
  obtain ⟨W5, hW5⟩ : ∃ W5, W5 = (W4.setCell ⟨w2.heap.size, 0, none⟩ (.int .i64 r5)).setCell ⟨w2.heap.size + 1, 13, none⟩ (.int .i64 4) := ⟨_, rfl⟩
  rw [← hW5]
  obtain ⟨L5, hL5⟩ : ∃ L, L = L4.setIfInBounds 13 (.int .i64 4) := ⟨_, rfl⟩
  have HS5 : Blk W5 w2.heap.size 3 #[.int .i64 r5] := by rw [hW5]; exact (HS4.put 0 _).far NSL.out _
  have HL5 : Blk W5 (w2.heap.size + 1) 26 L5 := by rw [hW5, hL5]; exact (HL4.far NLS.out _).put 13 _
  have HC5 : Blk W5 w.heap.size 23 CC := by rw [hW5]; exact (HC4.far NCS.out _).far NCL.out _
  have HZ5 : Blk W5 (w.heap.size + 1) 26 ZZ := by rw [hW5]; exact (HZ4.far NZS.out _).far NZL.out _
  have HB5 : Below w.heap.size w W5 := by rw [hW5]; exact (HB4.setCell lBS _).setCell lBL _
  have hs5 : Hid (L5.size = 25) := Lib.hid (by rw [hL5, Array.size_setIfInBounds, hs4.out])
  have E5 := Lib.hid hL5
  clear hW5 hL5 HS4 HL4 HC4 HZ4 HB4 z4 f4 c0
  obtain ⟨u5, z5⟩ : ∃ u, (W5.setCell ⟨w2.heap.size, 0, none⟩ (.int .i64 r6)).cell? ⟨w2.heap.size + 1, 14, none⟩ = some u := (HL5.far NLS.out _).has 14 (by rw [hs5.out]; omega)
  have f5 : (W5.setCell ⟨w2.heap.size, 0, none⟩ (.int .i64 r6)).frozen? ⟨w2.heap.size + 1, 14, none⟩ = false := (HL5.far NLS.out _).free 14
  have c0 : ((W5.setCell ⟨w2.heap.size, 0, none⟩ (.int .i64 r6)).setCell ⟨w2.heap.size + 1, 14, none⟩ (.int .i64 r5)).cell? ⟨w.heap.size, 0, none⟩ = some (.int .i64 s) := (((HC5.far NCS.out _).far NCL.out _).cell 0).trans hcc0.out
  refine (part_any w2.heap.size r5 s 1 r6 _ (HS5.cell 0) (HS5.free 0) (by rw [H6.out, H5.out]; omega) (by have := Xs.out; omega) (by have := B5.out; omega)).mono ?_
  rintro e w' ⟨rfl, rfl⟩
  go_wp2_with fail
  obtain ⟨W6, hW6⟩ : ∃ W6, W6 = (W5.setCell ⟨w2.heap.size, 0, none⟩ (.int .i64 r6)).setCell ⟨w2.heap.size + 1, 14, none⟩ (.int .i64 r5) := ⟨_, rfl⟩
  rw [← hW6]
  obtain ⟨L6, hL6⟩ : ∃ L, L = L5.setIfInBounds 14 (.int .i64 r5) := ⟨_, rfl⟩
  have HS6 : Blk W6 w2.heap.size 3 #[.int .i64 r6] := by rw [hW6]; exact (HS5.put 0 _).far NSL.out _
  have HL6 : Blk W6 (w2.heap.size + 1) 26 L6 := by rw [hW6, hL6]; exact (HL5.far NLS.out _).put 14 _
  have HC6 : Blk W6 w.heap.size 23 CC := by rw [hW6]; exact (HC5.far NCS.out _).far NCL.out _
  have HZ6 : Blk W6 (w.heap.size + 1) 26 ZZ := by rw [hW6]; exact (HZ5.far NZS.out _).far NZL.out _
  have HB6 : Below w.heap.size w W6 := by rw [hW6]; exact (HB5.setCell lBS _).setCell lBL _
  have hs6 : Hid (L6.size = 25) := Lib.hid (by rw [hL6, Array.size_setIfInBounds, hs5.out])
  have E6 := Lib.hid hL6
  clear hW6 hL6 HS5 HL5 HC5 HZ5 HB5 z5 f5 c0
  obtain ⟨u6, z6⟩ : ∃ u, (W6.setCell ⟨w2.heap.size, 0, none⟩ (.int .i64 r7)).cell? ⟨w2.heap.size + 1, 15, none⟩ = some u := (HL6.far NLS.out _).has 15 (by rw [hs6.out]; omega)
  have f6 : (W6.setCell ⟨w2.heap.size, 0, none⟩ (.int .i64 r7)).frozen? ⟨w2.heap.size + 1, 15, none⟩ = false := (HL6.far NLS.out _).free 15
  have c0 : ((W6.setCell ⟨w2.heap.size, 0, none⟩ (.int .i64 r7)).setCell ⟨w2.heap.size + 1, 15, none⟩ (.int .i64 r6)).cell? ⟨w.heap.size, 0, none⟩ = some (.int .i64 s) := (((HC6.far NCS.out _).far NCL.out _).cell 0).trans hcc0.out
  refine (part_any w2.heap.size r6 s 3 r7 _ (HS6.cell 0) (HS6.free 0) (by rw [H7.out, H6.out]; omega) (by have := Xs.out; omega) (by have := B6.out; omega)).mono ?_
  rintro e w' ⟨rfl, rfl⟩
  go_wp2_with fail
  obtain ⟨W7, hW7⟩ : ∃ W7, W7 = (W6.setCell ⟨w2.heap.size, 0, none⟩ (.int .i64 r7)).setCell ⟨w2.heap.size + 1, 15, none⟩ (.int .i64 r6) := ⟨_, rfl⟩
  rw [← hW7]
  obtain ⟨L7, hL7⟩ : ∃ L, L = L6.setIfInBounds 15 (.int .i64 r6) := ⟨_, rfl⟩
  have HS7 : Blk W7 w2.heap.size 3 #[.int .i64 r7] := by rw [hW7]; exact (HS6.put 0 _).far NSL.out _
  have HL7 : Blk W7 (w2.heap.size + 1) 26 L7 := by rw [hW7, hL7]; exact (HL6.far NLS.out _).put 15 _
  have HC7 : Blk W7 w.heap.size 23 CC := by rw [hW7]; exact (HC6.far NCS.out _).far NCL.out _
  have HZ7 : Blk W7 (w.heap.size + 1) 26 ZZ := by rw [hW7]; exact (HZ6.far NZS.out _).far NZL.out _
  have HB7 : Below w.heap.size w W7 := by rw [hW7]; exact (HB6.setCell lBS _).setCell lBL _
  have hs7 : Hid (L7.size = 25) := Lib.hid (by rw [hL7, Array.size_setIfInBounds, hs6.out])
  have E7 := Lib.hid hL7
  clear hW7 hL7 HS6 HL6 HC6 HZ6 HB6 z6 f6 c0
  obtain ⟨u7, z7⟩ : ∃ u, (W7.setCell ⟨w2.heap.size, 0, none⟩ (.int .i64 r8)).cell? ⟨w2.heap.size + 1, 16, none⟩ = some u := (HL7.far NLS.out _).has 16 (by rw [hs7.out]; omega)
  have f7 : (W7.setCell ⟨w2.heap.size, 0, none⟩ (.int .i64 r8)).frozen? ⟨w2.heap.size + 1, 16, none⟩ = false := (HL7.far NLS.out _).free 16
  have c0 : ((W7.setCell ⟨w2.heap.size, 0, none⟩ (.int .i64 r8)).setCell ⟨w2.heap.size + 1, 16, none⟩ (.int .i64 r7)).cell? ⟨w.heap.size, 0, none⟩ = some (.int .i64 s) := (((HC7.far NCS.out _).far NCL.out _).cell 0).trans hcc0.out
  have c4 : ((W7.setCell ⟨w2.heap.size, 0, none⟩ (.int .i64 r8)).setCell ⟨w2.heap.size + 1, 16, none⟩ (.int .i64 r7)).cell? ⟨w.heap.size, 4, none⟩ = some (.int .i64 t) := (((HC7.far NCS.out _).far NCL.out _).cell 4).trans hcc4.out
  refine (part_any w2.heap.size r7 s 3 r8 _ (HS7.cell 0) (HS7.free 0) (by rw [H8.out, H7.out]; omega) (by have := Xs.out; omega) (by have := B7.out; omega)).mono ?_
  rintro e w' ⟨rfl, rfl⟩
  go_wp2_with fail
  obtain ⟨W8, hW8⟩ : ∃ W8, W8 = (W7.setCell ⟨w2.heap.size, 0, none⟩ (.int .i64 r8)).setCell ⟨w2.heap.size + 1, 16, none⟩ (.int .i64 r7) := ⟨_, rfl⟩
  rw [← hW8]
  obtain ⟨L8, hL8⟩ : ∃ L, L = L7.setIfInBounds 16 (.int .i64 r7) := ⟨_, rfl⟩
  have HS8 : Blk W8 w2.heap.size 3 #[.int .i64 r8] := by rw [hW8]; exact (HS7.put 0 _).far NSL.out _
  have HL8 : Blk W8 (w2.heap.size + 1) 26 L8 := by rw [hW8, hL8]; exact (HL7.far NLS.out _).put 16 _
  have HC8 : Blk W8 w.heap.size 23 CC := by rw [hW8]; exact (HC7.far NCS.out _).far NCL.out _
  have HZ8 : Blk W8 (w.heap.size + 1) 26 ZZ := by rw [hW8]; exact (HZ7.far NZS.out _).far NZL.out _
  have HB8 : Below w.heap.size w W8 := by rw [hW8]; exact (HB7.setCell lBS _).setCell lBL _
  have hs8 : Hid (L8.size = 25) := Lib.hid (by rw [hL8, Array.size_setIfInBounds, hs7.out])
  have E8 := Lib.hid hL8
  clear hW8 hL8 HS7 HL7 HC7 HZ7 HB7 z7 f7 c0 c4
  have c0 : W8.cell? ⟨w.heap.size, 0, none⟩ = some (.int .i64 s) := (HC8.cell 0).trans hcc0.out
  have c4 : W8.cell? ⟨w.heap.size, 4, none⟩ = some (.int .i64 t) := (HC8.cell 4).trans hcc4.out
  obtain ⟨V8, hV8⟩ : ∃ V8, V8 = W8.drew := ⟨_, rfl⟩
  have HSd : Blk V8 w2.heap.size 3 #[.int .i64 r8] := by rw [hV8]; exact HS8
  have HLd : Blk V8 (w2.heap.size + 1) 26 L8 := by rw [hV8]; exact HL8
  have HCd : Blk V8 w.heap.size 23 CC := by rw [hV8]; exact HC8
  have HZd : Blk V8 (w.heap.size + 1) 26 ZZ := by rw [hV8]; exact HZ8
  have HBd : Below w.heap.size w V8 := by rw [hV8]; exact HB8.drew
  have e0 : V8.cell? ⟨w.heap.size, 0, none⟩ = some (.int .i64 s) := (HCd.cell 0).trans hcc0.out
  have e4 : V8.cell? ⟨w.heap.size, 4, none⟩ = some (.int .i64 t) := (HCd.cell 4).trans hcc4.out
  have k0 : (V8.setCell ⟨w2.heap.size, 0, none⟩ (.int .i64 r9)).cell? ⟨w.heap.size, 0, none⟩ = some (.int .i64 s) := ((HCd.far NCS.out _).cell 0).trans hcc0.out
  have k4 : (V8.setCell ⟨w2.heap.size, 0, none⟩ (.int .i64 r9)).cell? ⟨w.heap.size, 4, none⟩ = some (.int .i64 t) := ((HCd.far NCS.out _).cell 4).trans hcc4.out
  obtain ⟨u8, z8⟩ : ∃ u, (V8.setCell ⟨w2.heap.size, 0, none⟩ (.int .i64 r9)).cell? ⟨w2.heap.size + 1, 17, none⟩ = some u := (HLd.far NLS.out _).has 17 (by rw [hs8.out]; omega)
  have f8 : (V8.setCell ⟨w2.heap.size, 0, none⟩ (.int .i64 r9)).frozen? ⟨w2.heap.size + 1, 17, none⟩ = false := (HLd.far NLS.out _).free 17
  have m0 : ((V8.setCell ⟨w2.heap.size, 0, none⟩ (.int .i64 r9)).setCell ⟨w2.heap.size + 1, 17, none⟩ (.int .i64 r8)).cell? ⟨w.heap.size, 0, none⟩ = some (.int .i64 s) := (((HCd.far NCS.out _).far NCL.out _).cell 0).trans hcc0.out
  have m4 : ((V8.setCell ⟨w2.heap.size, 0, none⟩ (.int .i64 r9)).setCell ⟨w2.heap.size + 1, 17, none⟩ (.int .i64 r8)).cell? ⟨w.heap.size, 4, none⟩ = some (.int .i64 t) := (((HCd.far NCS.out _).far NCL.out _).cell 4).trans hcc4.out
  have HV8 := Lib.hid hV8
  clear hV8
  go_region_held3 (fun w' => w'.cell? ⟨w.heap.size, 0, none⟩ = some (.int .i64 s) ∧ w'.cell? ⟨w.heap.size, 4, none⟩ = some (.int .i64 t))
    (first | exact ⟨c0, c4⟩ | exact ⟨e0, e4⟩ | exact ⟨k0, k4⟩ | exact ⟨m0, m4⟩)
    (first
      | (go_at_call 25; refine (rings_any t _).mono ?_; rintro e w' ⟨rfl, rfl⟩)
      | (go_at_call 24; refine (cells_any _ (by have := XRG.out; rw [HRG.out]; omega) (by have := XRG.out; rw [HRG.out]; omega) _).mono ?_; rintro e w' ⟨rfl, rfl⟩)
      | (go_at_call 23; rw [← HV8.out, HRC.out]; refine (part_any w2.heap.size r8 s rc r9 _ (HSd.cell 0) (HSd.free 0) (by rw [H9.out, HP3.out]) (by have := Q3.out; rw [HP3.out]; omega) (by have := B8.out; omega)).mono ?_; rintro e w' ⟨rfl, rfl⟩))
  go_wp2_with fail
  obtain ⟨W9, hW9⟩ : ∃ W9, W9 = (V8.setCell ⟨w2.heap.size, 0, none⟩ (.int .i64 r9)).setCell ⟨w2.heap.size + 1, 17, none⟩ (.int .i64 r8) := ⟨_, rfl⟩
  rw [← hW9]
  obtain ⟨L9, hL9⟩ : ∃ L, L = L8.setIfInBounds 17 (.int .i64 r8) := ⟨_, rfl⟩
  have HS9 : Blk W9 w2.heap.size 3 #[.int .i64 r9] := by rw [hW9]; exact (HSd.put 0 _).far NSL.out _
  have HL9 : Blk W9 (w2.heap.size + 1) 26 L9 := by rw [hW9, hL9]; exact (HLd.far NLS.out _).put 17 _
  have HC9 : Blk W9 w.heap.size 23 CC := by rw [hW9]; exact (HCd.far NCS.out _).far NCL.out _
  have HZ9 : Blk W9 (w.heap.size + 1) 26 ZZ := by rw [hW9]; exact (HZd.far NZS.out _).far NZL.out _
  have HB9 : Below w.heap.size w W9 := by rw [hW9]; exact (HBd.setCell lBS _).setCell lBL _
  have hs9 : Hid (L9.size = 25) := Lib.hid (by rw [hL9, Array.size_setIfInBounds, hs8.out])
  have E9 := Lib.hid hL9
  clear hW9 hL9 HS8 HL8 HC8 HZ8 HB8 HSd HLd HCd HZd HBd z8 f8 c0 c4 e0 e4 k0 k4 m0 m4 HV8
  obtain ⟨u9, z9⟩ : ∃ u, (W9.setCell ⟨w2.heap.size, 0, none⟩ (.int .i64 r10)).cell? ⟨w2.heap.size + 1, 18, none⟩ = some u := (HL9.far NLS.out _).has 18 (by rw [hs9.out]; omega)
  have f9 : (W9.setCell ⟨w2.heap.size, 0, none⟩ (.int .i64 r10)).frozen? ⟨w2.heap.size + 1, 18, none⟩ = false := (HL9.far NLS.out _).free 18
  have c5 : ((W9.setCell ⟨w2.heap.size, 0, none⟩ (.int .i64 r10)).setCell ⟨w2.heap.size + 1, 18, none⟩ (.int .i64 r9)).cell? ⟨w.heap.size, 5, none⟩ = some (.int .i64 ce) := (((HC9.far NCS.out _).far NCL.out _).cell 5).trans hcc5.out
  refine (part_any w2.heap.size r9 t 4 r10 _ (HS9.cell 0) (HS9.free 0) (by rw [H10.out]; omega) (by have := Xt.out; omega) (by have := B9.out; omega)).mono ?_
  rintro e w' ⟨rfl, rfl⟩
  go_wp2_with fail
  obtain ⟨W10, hW10⟩ : ∃ W10, W10 = (W9.setCell ⟨w2.heap.size, 0, none⟩ (.int .i64 r10)).setCell ⟨w2.heap.size + 1, 18, none⟩ (.int .i64 r9) := ⟨_, rfl⟩
  rw [← hW10]
  obtain ⟨L10, hL10⟩ : ∃ L, L = L9.setIfInBounds 18 (.int .i64 r9) := ⟨_, rfl⟩
  have HS10 : Blk W10 w2.heap.size 3 #[.int .i64 r10] := by rw [hW10]; exact (HS9.put 0 _).far NSL.out _
  have HL10 : Blk W10 (w2.heap.size + 1) 26 L10 := by rw [hW10, hL10]; exact (HL9.far NLS.out _).put 18 _
  have HC10 : Blk W10 w.heap.size 23 CC := by rw [hW10]; exact (HC9.far NCS.out _).far NCL.out _
  have HZ10 : Blk W10 (w.heap.size + 1) 26 ZZ := by rw [hW10]; exact (HZ9.far NZS.out _).far NZL.out _
  have HB10 : Below w.heap.size w W10 := by rw [hW10]; exact (HB9.setCell lBS _).setCell lBL _
  have hs10 : Hid (L10.size = 25) := Lib.hid (by rw [hL10, Array.size_setIfInBounds, hs9.out])
  have E10 := Lib.hid hL10
  clear hW10 hL10 HS9 HL9 HC9 HZ9 HB9 z9 f9 c5
  obtain ⟨u10, z10⟩ : ∃ u, (W10.setCell ⟨w2.heap.size, 0, none⟩ (.int .i64 r11)).cell? ⟨w2.heap.size + 1, 19, none⟩ = some u := (HL10.far NLS.out _).has 19 (by rw [hs10.out]; omega)
  have f10 : (W10.setCell ⟨w2.heap.size, 0, none⟩ (.int .i64 r11)).frozen? ⟨w2.heap.size + 1, 19, none⟩ = false := (HL10.far NLS.out _).free 19
  have c6 : ((W10.setCell ⟨w2.heap.size, 0, none⟩ (.int .i64 r11)).setCell ⟨w2.heap.size + 1, 19, none⟩ (.int .i64 r10)).cell? ⟨w.heap.size, 6, none⟩ = some (.int .i64 ma) := (((HC10.far NCS.out _).far NCL.out _).cell 6).trans hcc6.out
  have c2 : ((W10.setCell ⟨w2.heap.size, 0, none⟩ (.int .i64 r11)).setCell ⟨w2.heap.size + 1, 19, none⟩ (.int .i64 r10)).cell? ⟨w.heap.size, 2, none⟩ = some (.int .i64 b) := (((HC10.far NCS.out _).far NCL.out _).cell 2).trans hcc2.out
  refine (part_any w2.heap.size r10 ce 1 r11 _ (HS10.cell 0) (HS10.free 0) (by rw [H11.out]; omega) (by have := Xce.out; omega) (by have := B10.out; omega)).mono ?_
  rintro e w' ⟨rfl, rfl⟩
  go_wp2_with fail
  obtain ⟨W11, hW11⟩ : ∃ W11, W11 = (W10.setCell ⟨w2.heap.size, 0, none⟩ (.int .i64 r11)).setCell ⟨w2.heap.size + 1, 19, none⟩ (.int .i64 r10) := ⟨_, rfl⟩
  rw [← hW11]
  obtain ⟨L11, hL11⟩ : ∃ L, L = L10.setIfInBounds 19 (.int .i64 r10) := ⟨_, rfl⟩
  have HS11 : Blk W11 w2.heap.size 3 #[.int .i64 r11] := by rw [hW11]; exact (HS10.put 0 _).far NSL.out _
  have HL11 : Blk W11 (w2.heap.size + 1) 26 L11 := by rw [hW11, hL11]; exact (HL10.far NLS.out _).put 19 _
  have HC11 : Blk W11 w.heap.size 23 CC := by rw [hW11]; exact (HC10.far NCS.out _).far NCL.out _
  have HZ11 : Blk W11 (w.heap.size + 1) 26 ZZ := by rw [hW11]; exact (HZ10.far NZS.out _).far NZL.out _
  have HB11 : Below w.heap.size w W11 := by rw [hW11]; exact (HB10.setCell lBS _).setCell lBL _
  have hs11 : Hid (L11.size = 25) := Lib.hid (by rw [hL11, Array.size_setIfInBounds, hs10.out])
  have E11 := Lib.hid hL11
  clear hW11 hL11 HS10 HL10 HC10 HZ10 HB10 z10 f10 c6 c2
  obtain ⟨u11, z11⟩ : ∃ u, (W11.setCell ⟨w2.heap.size, 0, none⟩ (.int .i64 r12)).cell? ⟨w2.heap.size + 1, 20, none⟩ = some u := (HL11.far NLS.out _).has 20 (by rw [hs11.out]; omega)
  have f11 : (W11.setCell ⟨w2.heap.size, 0, none⟩ (.int .i64 r12)).frozen? ⟨w2.heap.size + 1, 20, none⟩ = false := (HL11.far NLS.out _).free 20
  have c7 : ((W11.setCell ⟨w2.heap.size, 0, none⟩ (.int .i64 r12)).setCell ⟨w2.heap.size + 1, 20, none⟩ (.int .i64 r11)).cell? ⟨w.heap.size, 7, none⟩ = some (.int .i64 st) := (((HC11.far NCS.out _).far NCL.out _).cell 7).trans hcc7.out
  have c3 : ((W11.setCell ⟨w2.heap.size, 0, none⟩ (.int .i64 r12)).setCell ⟨w2.heap.size + 1, 20, none⟩ (.int .i64 r11)).cell? ⟨w.heap.size, 3, none⟩ = some (.int .i64 sl) := (((HC11.far NCS.out _).far NCL.out _).cell 3).trans hcc3.out
  refine (part_any w2.heap.size r11 ma (2 + b) r12 _ (HS11.cell 0) (HS11.free 0) (by rw [H12.out, HP1.out]) (by have := Q1.out; rw [HP1.out]; omega) (by have := B11.out; omega)).mono ?_
  rintro e w' ⟨rfl, rfl⟩
  go_wp2_with fail
  obtain ⟨W12, hW12⟩ : ∃ W12, W12 = (W11.setCell ⟨w2.heap.size, 0, none⟩ (.int .i64 r12)).setCell ⟨w2.heap.size + 1, 20, none⟩ (.int .i64 r11) := ⟨_, rfl⟩
  rw [← hW12]
  obtain ⟨L12, hL12⟩ : ∃ L, L = L11.setIfInBounds 20 (.int .i64 r11) := ⟨_, rfl⟩
  have HS12 : Blk W12 w2.heap.size 3 #[.int .i64 r12] := by rw [hW12]; exact (HS11.put 0 _).far NSL.out _
  have HL12 : Blk W12 (w2.heap.size + 1) 26 L12 := by rw [hW12, hL12]; exact (HL11.far NLS.out _).put 20 _
  have HC12 : Blk W12 w.heap.size 23 CC := by rw [hW12]; exact (HC11.far NCS.out _).far NCL.out _
  have HZ12 : Blk W12 (w.heap.size + 1) 26 ZZ := by rw [hW12]; exact (HZ11.far NZS.out _).far NZL.out _
  have HB12 : Below w.heap.size w W12 := by rw [hW12]; exact (HB11.setCell lBS _).setCell lBL _
  have hs12 : Hid (L12.size = 25) := Lib.hid (by rw [hL12, Array.size_setIfInBounds, hs11.out])
  have E12 := Lib.hid hL12
  clear hW12 hL12 HS11 HL11 HC11 HZ11 HB11 z11 f11 c7 c3
  obtain ⟨u12, z12⟩ : ∃ u, (W12.setCell ⟨w2.heap.size, 0, none⟩ (.int .i64 r13)).cell? ⟨w2.heap.size + 1, 21, none⟩ = some u := (HL12.far NLS.out _).has 21 (by rw [hs12.out]; omega)
  have f12 : (W12.setCell ⟨w2.heap.size, 0, none⟩ (.int .i64 r13)).frozen? ⟨w2.heap.size + 1, 21, none⟩ = false := (HL12.far NLS.out _).free 21
  have c8 : ((W12.setCell ⟨w2.heap.size, 0, none⟩ (.int .i64 r13)).setCell ⟨w2.heap.size + 1, 21, none⟩ (.int .i64 r12)).cell? ⟨w.heap.size, 8, none⟩ = some (.int .i64 ch) := (((HC12.far NCS.out _).far NCL.out _).cell 8).trans hcc8.out
  refine (part_any w2.heap.size r12 st (1 + sl) r13 _ (HS12.cell 0) (HS12.free 0) (by rw [H13.out, HP2.out]) (by have := Q2.out; rw [HP2.out]; omega) (by have := B12.out; omega)).mono ?_
  rintro e w' ⟨rfl, rfl⟩
  go_wp2_with fail
  obtain ⟨W13, hW13⟩ : ∃ W13, W13 = (W12.setCell ⟨w2.heap.size, 0, none⟩ (.int .i64 r13)).setCell ⟨w2.heap.size + 1, 21, none⟩ (.int .i64 r12) := ⟨_, rfl⟩
  rw [← hW13]
  obtain ⟨L13, hL13⟩ : ∃ L, L = L12.setIfInBounds 21 (.int .i64 r12) := ⟨_, rfl⟩
  have HS13 : Blk W13 w2.heap.size 3 #[.int .i64 r13] := by rw [hW13]; exact (HS12.put 0 _).far NSL.out _
  have HL13 : Blk W13 (w2.heap.size + 1) 26 L13 := by rw [hW13, hL13]; exact (HL12.far NLS.out _).put 21 _
  have HC13 : Blk W13 w.heap.size 23 CC := by rw [hW13]; exact (HC12.far NCS.out _).far NCL.out _
  have HZ13 : Blk W13 (w.heap.size + 1) 26 ZZ := by rw [hW13]; exact (HZ12.far NZS.out _).far NZL.out _
  have HB13 : Below w.heap.size w W13 := by rw [hW13]; exact (HB12.setCell lBS _).setCell lBL _
  have hs13 : Hid (L13.size = 25) := Lib.hid (by rw [hL13, Array.size_setIfInBounds, hs12.out])
  have E13 := Lib.hid hL13
  clear hW13 hL13 HS12 HL12 HC12 HZ12 HB12 z12 f12 c8
  obtain ⟨u13, z13⟩ : ∃ u, (W13.setCell ⟨w2.heap.size, 0, none⟩ (.int .i64 r14)).cell? ⟨w2.heap.size + 1, 22, none⟩ = some u := (HL13.far NLS.out _).has 22 (by rw [hs13.out]; omega)
  have f13 : (W13.setCell ⟨w2.heap.size, 0, none⟩ (.int .i64 r14)).frozen? ⟨w2.heap.size + 1, 22, none⟩ = false := (HL13.far NLS.out _).free 22
  have c1 : ((W13.setCell ⟨w2.heap.size, 0, none⟩ (.int .i64 r14)).setCell ⟨w2.heap.size + 1, 22, none⟩ (.int .i64 r13)).cell? ⟨w.heap.size, 1, none⟩ = some (.int .i64 n) := (((HC13.far NCS.out _).far NCL.out _).cell 1).trans hcc1.out
  refine (part_any w2.heap.size r13 ch 2 r14 _ (HS13.cell 0) (HS13.free 0) (by rw [H14.out]; omega) (by have := Xch.out; omega) (by have := B13.out; omega)).mono ?_
  rintro e w' ⟨rfl, rfl⟩
  go_wp2_with fail
  obtain ⟨W14, hW14⟩ : ∃ W14, W14 = (W13.setCell ⟨w2.heap.size, 0, none⟩ (.int .i64 r14)).setCell ⟨w2.heap.size + 1, 22, none⟩ (.int .i64 r13) := ⟨_, rfl⟩
  rw [← hW14]
  obtain ⟨L14, hL14⟩ : ∃ L, L = L13.setIfInBounds 22 (.int .i64 r13) := ⟨_, rfl⟩
  have HS14 : Blk W14 w2.heap.size 3 #[.int .i64 r14] := by rw [hW14]; exact (HS13.put 0 _).far NSL.out _
  have HL14 : Blk W14 (w2.heap.size + 1) 26 L14 := by rw [hW14, hL14]; exact (HL13.far NLS.out _).put 22 _
  have HC14 : Blk W14 w.heap.size 23 CC := by rw [hW14]; exact (HC13.far NCS.out _).far NCL.out _
  have HZ14 : Blk W14 (w.heap.size + 1) 26 ZZ := by rw [hW14]; exact (HZ13.far NZS.out _).far NZL.out _
  have HB14 : Below w.heap.size w W14 := by rw [hW14]; exact (HB13.setCell lBS _).setCell lBL _
  have hs14 : Hid (L14.size = 25) := Lib.hid (by rw [hL14, Array.size_setIfInBounds, hs13.out])
  have E14 := Lib.hid hL14
  clear hW14 hL14 HS13 HL13 HC13 HZ13 HB13 z13 f13 c1
  obtain ⟨u14, z14⟩ : ∃ u, (W14.setCell ⟨w2.heap.size, 0, none⟩ (.int .i64 r15)).cell? ⟨w2.heap.size + 1, 23, none⟩ = some u := (HL14.far NLS.out _).has 23 (by rw [hs14.out]; omega)
  have f14 : (W14.setCell ⟨w2.heap.size, 0, none⟩ (.int .i64 r15)).frozen? ⟨w2.heap.size + 1, 23, none⟩ = false := (HL14.far NLS.out _).free 23
  refine (part_any w2.heap.size r14 n 8 r15 _ (HS14.cell 0) (HS14.free 0) (by rw [H15.out]; omega) (by have := XN.out; have := Xma.out; have := Xch.out; omega) (by have := B14.out; omega)).mono ?_
  rintro e w' ⟨rfl, rfl⟩
  have HSf : Blk ((W14.setCell ⟨w2.heap.size, 0, none⟩ (.int .i64 r15)).setCell ⟨w2.heap.size + 1, 23, none⟩ (.int .i64 r14)) w2.heap.size 3 #[.int .i64 r15] := (HS14.put 0 _).far NSL.out _
  have HLf : Blk ((W14.setCell ⟨w2.heap.size, 0, none⟩ (.int .i64 r15)).setCell ⟨w2.heap.size + 1, 23, none⟩ (.int .i64 r14)) (w2.heap.size + 1) 26 (L14.setIfInBounds 23 (.int .i64 r14)) := (HL14.far NLS.out _).put 23 _
  have HZf : Blk ((W14.setCell ⟨w2.heap.size, 0, none⟩ (.int .i64 r15)).setCell ⟨w2.heap.size + 1, 23, none⟩ (.int .i64 r14)) (w.heap.size + 1) 26 ZZ := (HZ14.far NZS.out _).far NZL.out _
  have HBf : Below w.heap.size w ((W14.setCell ⟨w2.heap.size, 0, none⟩ (.int .i64 r15)).setCell ⟨w2.heap.size + 1, 23, none⟩ (.int .i64 r14)) := (HB14.setCell lBS _).setCell lBL _
  obtain ⟨W15, hW15⟩ : ∃ W15, W15 = ((W14.setCell ⟨w2.heap.size, 0, none⟩ (.int .i64 r15)).setCell ⟨w2.heap.size + 1, 23, none⟩ (.int .i64 r14)) := ⟨_, rfl⟩
  have x0 : ((W14.setCell ⟨w2.heap.size, 0, none⟩ (.int .i64 r15)).setCell ⟨w2.heap.size + 1, 23, none⟩ (.int .i64 r14)).cell? ⟨w2.heap.size, 0, none⟩ = some (.int .i64 r15) := HSf.cell 0
  obtain ⟨u15, x1⟩ : ∃ u, ((W14.setCell ⟨w2.heap.size, 0, none⟩ (.int .i64 r15)).setCell ⟨w2.heap.size + 1, 23, none⟩ (.int .i64 r14)).cell? ⟨w2.heap.size + 1, 24, none⟩ = some u := HLf.has 24 (by rw [Array.size_setIfInBounds, hs14.out]; omega)
  have x2 : ((W14.setCell ⟨w2.heap.size, 0, none⟩ (.int .i64 r15)).setCell ⟨w2.heap.size + 1, 23, none⟩ (.int .i64 r14)).frozen? ⟨w2.heap.size + 1, 24, none⟩ = false := HLf.free 24
  have hfin : (L14.setIfInBounds 23 (.int .i64 r14)).setIfInBounds 24 (.int .i64 r15) = #[.int .i64 s, .int .i64 n, .int .i64 b, .int .i64 sl, .int .i64 t, .int .i64 ce, .int .i64 ma, .int .i64 st, .int .i64 ch, .int .i64 0, .int .i64 1, .int .i64 2, .int .i64 3, .int .i64 4, .int .i64 r5, .int .i64 r6, .int .i64 r7, .int .i64 r8, .int .i64 r9, .int .i64 r10, .int .i64 r11, .int .i64 r12, .int .i64 r13, .int .i64 r14, .int .i64 r15] := by
    rw [E14.out, E13.out, E12.out, E11.out, E10.out, E9.out, E8.out, E7.out, E6.out, E5.out, E4.out, E3.out, E2.out, E1.out, E0.out]
    exact fin_lay _ _ _ _ _ _ _ _ _ _ _ _ _ _ _ _ _ _ _ _ _ _ _ _ _ _
  obtain ⟨q, hq⟩ : ∃ q : List Value, q = [.int .i64 s, .int .i64 n, .int .i64 b, .int .i64 sl, .int .i64 t, .int .i64 ce, .int .i64 ma, .int .i64 st, .int .i64 ch, .int .i64 0, .int .i64 1, .int .i64 2, .int .i64 3, .int .i64 4, .int .i64 r5, .int .i64 r6, .int .i64 r7, .int .i64 r8, .int .i64 r9, .int .i64 r10, .int .i64 r11, .int .i64 r12, .int .i64 r13, .int .i64 r14, .int .i64 r15] := ⟨_, rfl⟩
  have hq25 : q.length = 25 := by rw [hq]; rfl
  have HLg : Blk (((W14.setCell ⟨w2.heap.size, 0, none⟩ (.int .i64 r15)).setCell ⟨w2.heap.size + 1, 23, none⟩ (.int .i64 r14)).setCell ⟨w2.heap.size + 1, 24, none⟩ (.int .i64 r15)) (w2.heap.size + 1) 26 q.toArray := by rw [hq]; exact hfin ▸ HLf.put 24 _
  have HZg : Blk (((W14.setCell ⟨w2.heap.size, 0, none⟩ (.int .i64 r15)).setCell ⟨w2.heap.size + 1, 23, none⟩ (.int .i64 r14)).setCell ⟨w2.heap.size + 1, 24, none⟩ (.int .i64 r15)) (w.heap.size + 1) 26 ZZ := HZf.far NZL.out _
  have HBg : Below w.heap.size w (((W14.setCell ⟨w2.heap.size, 0, none⟩ (.int .i64 r15)).setCell ⟨w2.heap.size + 1, 23, none⟩ (.int .i64 r14)).setCell ⟨w2.heap.size + 1, 24, none⟩ (.int .i64 r15)) := HBf.setCell lBL _
  have hra : World.rangeAt (((W14.setCell ⟨w2.heap.size, 0, none⟩ (.int .i64 r15)).setCell ⟨w2.heap.size + 1, 23, none⟩ (.int .i64 r14)).setCell ⟨w2.heap.size + 1, 24, none⟩ (.int .i64 r15)) (w2.heap.size + 1) 0 q := fun j v hv => by rw [Nat.zero_add, HLg.cell]; simpa using hv
  have hth : World.there (((W14.setCell ⟨w2.heap.size, 0, none⟩ (.int .i64 r15)).setCell ⟨w2.heap.size + 1, 23, none⟩ (.int .i64 r14)).setCell ⟨w2.heap.size + 1, 24, none⟩ (.int .i64 r15)) (w.heap.size + 1) 0 q.toArray.size := fun j hj => by
    rw [Nat.zero_add]
    obtain ⟨u, hu⟩ := HZg.has j (by rw [hzs.out]; simp at hj; omega)
    exact ⟨by rw [hu]; rfl, HZg.free j⟩
  have hon : q.toArray.all (·.oneCell') = true := by rw [hq]; simp [Value.oneCell']
  have hra2 := World.rangeAt_setCells_same _ _ _ q (by simpa using hth)
  have hbe := HBg.trans (Lib.below_setCells_w (Nat.le_succ w.heap.size) q 0 _)
  have hi26 : (Try.prog.info? 26).map (·.size) = some q.length := by rw [hq25]; exact lay25
  have hi27 : (Try.prog.info? 26).map (·.size) = some q.toArray.size := by rw [List.size_toArray]; exact hi26
  have Hra := Lib.hid hra
  have Hth := Lib.hid hth
  have Hon := Lib.hid hon
  have Hra2 := Lib.hid hra2
  have Hbe := Lib.hid hbe
  have Hi := Lib.hid hi26
  have Hj := Lib.hid hi27
  have HQ := Lib.hid hq
  clear hfin HSf HLf HZf HBf hW15 HLg HZg HBg hra hth hon hra2 hbe hi26 hi27 hq hq25 HZ14 HL14 HC14 HS14
  go_wp2_with (first
    | (with_reducible (show wpList _ _ _ ({ dst := _, op := Op.load 26 _, type := _, pos := _, after := _, guard := none } :: _) _ _); refine wpList_load_mid rfl 26 _ rfl (w2.heap.size + 1) 0 rfl q _ Hra.out layFields rfl Hi.out ?_)
    | (with_reducible (show wpList _ _ _ ({ dst := none, op := Op.store _ _ _, type := _, pos := _, after := _, guard := none } :: _) _ _); refine wpList_store_mid rfl 26 _ _ rfl (w.heap.size + 1) 0 q.toArray rfl rfl Hth.out Hj.out Hon.out ?_))
  obtain ⟨Wf, hWf⟩ : ∃ W, W = World.setCells (((W14.setCell ⟨w2.heap.size, 0, none⟩ (.int .i64 r15)).setCell ⟨w2.heap.size + 1, 23, none⟩ (.int .i64 r14)).setCell ⟨w2.heap.size + 1, 24, none⟩ (.int .i64 r15)) (w.heap.size + 1) 0 q := ⟨_, rfl⟩
  have HRf : Wf.rangeAt (w.heap.size + 1) 0 q := by rw [hWf]; exact Hra2.out
  have HBf2 : Below w.heap.size w Wf := by rw [hWf]; exact Hbe.out
  simp only [← hWf]
  have hlay : layC s n b sl t ce ma st ch r5 r6 r7 r8 r9 r10 r11 r12 r13 r14 r15 = q.toArray := by rw [HQ.out]; rfl
  refine bodyPost_ret (v := .tuple #[.agg q.toArray, .int .i64 0]) ?_ rfl ?_
  · exact results_cell_mid Try.results10 _ _ (w.heap.size + 1) q _ rfl rfl HRf layFields rfl Hi.out
  · exact ⟨by rw [hlay], HBf2⟩
end Go.Proofs.Ytbaeckehchpfaaa
