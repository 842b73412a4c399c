/-
  OM: the row of an order.
-/
import Derived.Test.YtjpimaiogdckpaaOmD
import Derived.Test.YtjpimaiogdckpaaOmE
import Derived.Deep.OwnRows
namespace Go.Proofs.Ytjpimaiogdckpaa
open Go.ChangeShapes Go.WideShapes Go.ChangeAt Go.RowKit Go.Sort

theorem below_grow {B : Nat} {w0 w : World} (h : RowKit.Below B w0 w) (hB : B ≤ w.heap.size) (os : Array Obj) : RowKit.Below B w0 (grow w os) :=
  ⟨h.os, h.tape, h.output, by have := h.size; simp [grow]; omega, fun k hk => by
    rw [← h.block k hk]
    simp only [grow]
    rw [Array.getElem?_append_left (by omega)]⟩
theorem below_sw {α : Type} [Inhabited α] {B : Nat} {w0 w : World} (enc : α → Value) (h : RowKit.Below B w0 w) (hB : B ≤ w.heap.size) (g m : Nat) (hg : B ≤ g) (d : Array α) (os : Array Obj) : RowKit.Below B w0 (sortWorld enc w g 0 m d os) :=
  below_grow (Lib.below_putRow (enc := enc) (q := m) (d := d) h hg) (by simpa [putRow, mapBlock, Sort.ahead] using hB) os

def encF {m : Nat} (i : Fin (m + 1)) : Value := .int .i64 (i.val : Int)
def cfF (l : List Int) {m : Nat} (x y : Fin (m + 1)) : Int := l.getD x.val 0 - l.getD y.val 0
theorem cfF_swo (l : List Int) (m : Nat) : SWO (ltOf (cfF l (m := m))) where
  irrefl x := by simp [ltOf, cfF]
  trans x y z h1 h2 := by simp [ltOf, cfF] at *; omega
  ntrans x y z h1 h2 := by simp [ltOf, cfF] at *; omega

set_option maxHeartbeats 1000000 in
theorem cmp_any (l : List Int) (n : Nat) (hr : ∀ y ∈ l, 0 ≤ y ∧ y ≤ 1099511627776) (hl : l.length = n) (b off c B x y : Nat) (hx : x < n) (hy : y < n) (W : World) (hB : W.cell? ⟨B, 0, none⟩ = some (.slice (some ⟨b, off, none⟩) n c)) (hc : ∀ k, k < n → W.cell? ⟨b, off + k, none⟩ = some (.int .i64 (l.getD k 0))) :
    Calls Try.prog 37 #[.int .i64 x, .int .i64 y, .pointer (some ⟨B, 0, none⟩)] W fun e w' => e = .returned (.int .i64 (l.getD x 0 - l.getD y 0)) ∧ ∃ q, w' = W.drewN q := by
  have c1 := hc x hx
  have c2 := hc y hy
  have r1 := hr _ (getD_mem (l := l) (i := x) (by omega))
  have r2 := hr _ (getD_mem (l := l) (i := y) (by omega))
  generalize l.getD x 0 = u at c1 r1 ⊢
  generalize l.getD y 0 = v at c2 r2 ⊢
  have e1 : IntKind.i64.wrap (u - v) = u - v := by rw [IntKind.wrap_i64]; omega
  have i1 : (0 : Int) ≤ x := by omega
  have i2 : (0 : Int) ≤ y := by omega
  have i3 : (x : Int) < n := by omega
  have i4 : (y : Int) < n := by omega
  clear hc hr hl r1 r2
  go_enter Try.func37, Try.ntmps37
  go_wp2_with fail
  go_quiet (fail)
  go_wp2_with fail
  go_ret
  exact ⟨rfl, _, rfl⟩

def idArr (n k : Nat) : Array Value := ((List.range n).map fun j => Value.int .i64 (if j < k then (j : Int) else 0)).toArray
theorem idArr_size (n k : Nat) : (idArr n k).size = n := by simp [idArr]
theorem idArr_at (n k j : Nat) (hj : j < n) : (idArr n k)[j]? = some (Value.int .i64 (if j < k then (j : Int) else 0)) := by simp [idArr, hj]
theorem idArr_made (n : Nat) : madeCells #[Value.int .i64 0] n = idArr n 0 := by
  apply Array.ext_getElem?
  intro j
  by_cases hj : j < n
  · rw [idArr_at n 0 j hj]; simp [madeCells, hj, Nat.mod_one]
  · rw [Array.getElem?_eq_none (by simp [madeCells]; omega), Array.getElem?_eq_none (by rw [idArr_size]; omega)]
theorem idArr_set (n k : Nat) (hk : k < n) : (idArr n k).setIfInBounds k (.int .i64 (k : Int)) = idArr n (k + 1) := by
  apply Array.ext_getElem?
  intro j
  by_cases hj : j < n
  · rw [idArr_at n (k + 1) j hj, Array.getElem?_setIfInBounds]
    by_cases hkj : k = j
    · subst hkj; simp [idArr_size, hk]
    · rw [if_neg hkj, idArr_at n k j hj]
      by_cases h1 : j < k
      · rw [if_pos h1, if_pos (by omega)]
      · rw [if_neg h1, if_neg (by omega)]
  · rw [Array.getElem?_eq_none (by rw [Array.size_setIfInBounds, idArr_size]; omega), Array.getElem?_eq_none (by rw [idArr_size]; omega)]

theorem rw_of_sorted {l : List Int} {m : Nat} (hl : l.length = m + 1) (hn : l.Nodup) {d d' : Array (Fin (m + 1))} (hd : d = Array.ofFn (fun i => i)) (hp : PermIn 0 d.size d d') (hs : SortedIn (ltOf (cfF l)) 0 d.size d') : IsRw l (d'.toList.map Fin.val) := by
  have hsz : d.size = m + 1 := by rw [hd]; simp
  have hsz' : d'.size = m + 1 := by rw [hp.1, hsz]
  have h1 : d'.toList.Perm d.toList := by
    have := hp.2.2
    have e1 : d'.extract 0 d.size = d' := by
      have e0 : d.size = d'.size := by omega
      rw [e0]; simp
    rw [e1] at this
    simpa using this
  have hperm : (d'.toList.map Fin.val).Perm (List.range l.length) := by
    refine (h1.map Fin.val).trans ?_
    rw [hl, hd]
    have : (Array.ofFn (fun i : Fin (m + 1) => i)).toList.map Fin.val = List.range (m + 1) := by
      apply List.ext_getElem
      · simp
      · intro i h1 h2
        rw [List.getElem_map, Array.getElem_toList, Array.getElem_ofFn, List.getElem_range]
    rw [this]
  refine ⟨hperm, ?_⟩
  refine List.pairwise_iff_getElem.2 fun i j hi hj hij => ?_
  have hi' : i < d'.size := by simpa using hi
  have hj' : j < d'.size := by simpa using hj
  have h2 := hs i j (Nat.zero_le _) hij (by omega)
  have h2 : ¬ (l.getD d'[j]!.val 0 - l.getD d'[i]!.val 0 < 0) := by
    have := h2
    unfold ltOf cfF at this
    exact of_decide_eq_false this
  have e1 : d'[i]! = d'[i] := by simp [hi']
  have e2 : d'[j]! = d'[j] := by simp [hj']
  rw [e1, e2] at h2
  have h3 : (d'.toList.map Fin.val)[i] = d'[i].val := by simp
  have h4 : (d'.toList.map Fin.val)[j] = d'[j].val := by simp
  rw [h3, h4]
  have h5 : l.getD d'[i].val 0 ≠ l.getD d'[j].val 0 := fun e => by
    have h6 := nodup_getD hn (by rw [hl]; exact d'[i].isLt) (by rw [hl]; exact d'[j].isLt) e
    have h7 : (d'.toList.map Fin.val).Nodup := hperm.nodup_iff.2 List.nodup_range
    have h8 := List.pairwise_iff_getElem.1 h7 i j hi hj hij
    rw [h3, h4] at h8
    exact h8 h6
  omega

/-- a row of numbers of the call's own -/
def RowPost (w : World) (l : List Int) (n : Nat) (e : Ending) (w' : World) : Prop :=
  ∃ (g : Nat) (r : List Nat), e = .returned (.slice (some ⟨g, 0, none⟩) n n) ∧ IsRw l r ∧ Nums w' (some ⟨g, 0, none⟩) n (r.map Int.ofNat) ∧ w.heap.size ≤ g ∧ Below w.heap.size w w'

set_option maxRecDepth 100000 in
set_option maxHeartbeats 4000000 in
theorem row_any (l : List Int) (n : Nat) (hl : l.length = n) (h0 : 0 < n) (hn : n ≤ 1000) (hr : ∀ y ∈ l, 0 ≤ y ∧ y ≤ 1099511627776) (hnd : l.Nodup) (p : Option Addr) (c : Nat) (w : World) (h : Nums w p c l) :
    Calls Try.prog 30 #[.slice p n c] w (RowPost w l n) := by
  obtain ⟨i0, hi0, hz0, hz1, hz2⟩ := info_parts intInfo
  obtain ⟨b, off, rfl, hlb, hcell⟩ := h.block (by omega)
  rw [hl] at hcell
  have hmk := fun wx => run_make_row (P := Try.prog) 45 3 i0 (.int .i64 0) Try.underlying45 hi0 hz0 hz1 rfl .i64 .i64 n (by rw [hz2]; omega) (by omega) wx
  obtain ⟨W, hW⟩ : ∃ W, W = w.alloc (Obj.cells #[.slice (some ⟨b, off, none⟩) n c] 64) := ⟨_, rfl⟩
  have hb0 : Below w.heap.size w W := by rw [hW]; exact below_alloc1 _ _
  have K0 : Blk W w.heap.size 64 #[.slice (some ⟨b, off, none⟩) n c] := by rw [hW]; exact Blk.made _ _ _
  obtain ⟨g, hg⟩ : ∃ g, W.heap.size = g := ⟨_, rfl⟩
  have hgw : g = w.heap.size + 1 := by rw [← hg, hW]; simp
  obtain ⟨V, hV⟩ : ∃ V, V = W.alloc (Obj.cells (madeCells #[Value.int .i64 0] n) 3) := ⟨_, rfl⟩
  have K1 : Blk V g 3 (idArr n 0) := by rw [hV, ← hg, ← idArr_made]; exact Blk.made _ _ _
  have K2 : Blk V w.heap.size 64 #[.slice (some ⟨b, off, none⟩) n c] := by rw [hV]; exact K0.alloc _
  have hbV : Below w.heap.size w V := by rw [hV]; exact hb0.alloc hb0.size _
  have k0 : W.cell? ⟨w.heap.size, 0, none⟩ = some (.slice (some ⟨b, off, none⟩) n c) := K0.cell 0
  have HW := Lib.hid hW
  have HV := Lib.hid hV
  have HK1 := Lib.hid K1
  have HK2 := Lib.hid K2
  have HBV := Lib.hid hbV
  have HL := Lib.hid hl
  have HR := Lib.hid hr
  have HND := Lib.hid hnd
  have HC := Lib.hid hcell
  have HG := Lib.hid hg
  have HGW := Lib.hid hgw
  clear hW hV K0 K1 K2 hb0 hbV h hl hr hnd hcell hg hgw
  go_enter Try.func30, Try.ntmps30
  go_wp2_with fail
  rw [← HW.out, ← HV.out, ← HGW.out]
  go_loopw [10] (fun i wr => ∃ k : Nat, i = .int .i64 k ∧ k ≤ n ∧ ∃ W', W' = wr ∧ Hid (Blk W' g 3 (idArr n k)) ∧ Hid (Blk W' w.heap.size 64 #[.slice (some ⟨b, off, none⟩) n c]) ∧ Hid (Below w.heap.size w W')) (fun i _ => n - (intOf i).toNat)
  case atStart => exact ⟨0, rfl, Nat.zero_le _, _, rfl, HK1, HK2, HBV⟩
  case round =>
    obtain ⟨k, rfl, hk, wr, rfl, HA, HB, HBL⟩ := hrel
    by_cases hlt : k < n
    · have g0 := (HA.out.cell k).trans (idArr_at n k k hlt)
      have f0 := HA.out.free k
      have hk0 : (0 : Int) ≤ k := by omega
      have hkn : (k : Int) < n := by omega
      rw [if_neg (Nat.lt_irrefl k)] at g0
      go_wp2_with fail
      have HA2 : Hid (Blk (wr.setCell ⟨g, k, none⟩ (.int .i64 k)) g 3 (idArr n (k + 1))) := Lib.hid (by have := HA.out.put k (.int .i64 (k : Int)); rwa [idArr_set n k hlt] at this)
      have HB2 : Hid (Blk (wr.setCell ⟨g, k, none⟩ (.int .i64 k)) w.heap.size 64 #[.slice (some ⟨b, off, none⟩) n c]) := Lib.hid (HB.out.far (p := ⟨g, k, none⟩) (show w.heap.size ≠ g by have := HGW.out; omega) _)
      have HL2 : Hid (Below w.heap.size w (wr.setCell ⟨g, k, none⟩ (.int .i64 k))) := Lib.hid (HBL.out.setCell (p := ⟨g, k, none⟩) (show w.heap.size ≤ g by have := HGW.out; omega) _)
      clear g0 f0 HA HB HBL
      go_roundw
      case rel => exact ⟨k + 1, by simp, by omega, _, rfl, HA2, HB2, HL2⟩
      case measure => simp [intOf]; omega
    · have hkn : k = n := by omega
      have hd : decide ((k : Int) < n) = false := by simp; omega
      have HA2 : Hid (Blk wr g 3 (idArr n n)) := Lib.hid (by have := HA.out; rwa [hkn] at this)
      clear HA hkn
      obtain ⟨m, rfl⟩ : ∃ m, n = m + 1 := ⟨n - 1, by omega⟩
      obtain ⟨d, hd0⟩ : ∃ d : Array (Fin (m + 1)), d = Array.ofFn (fun i => i) := ⟨_, rfl⟩
      have hds : d.size = m + 1 := by rw [hd0]; simp
      have hbox := HB.out.cell 0
      have hHo : Holds (encF (m := m)) wr g 0 d := fun j hj => by
        rw [hds] at hj
        refine ⟨?_, HA2.out.free _⟩
        rw [Nat.zero_add, HA2.out.cell, idArr_at _ _ _ hj, if_pos hj]
        have : d[j]! = ⟨j, hj⟩ := by subst hd0; simp [hj]
        rw [this]; rfl
      have hgb : b < w.heap.size := hlb
      have eg : ∀ args w, (callFunc 37 args).run Try.prog w = .ok (.enter 37 args) w := enters_of Try.func37 (by kernel_rfl) rfl
      have hgs : g ≤ wr.heap.size := Nat.le_of_lt HA2.out.lt
      have hcmp : CmpReads Try.prog 37 #[.pointer (some ⟨w.heap.size, 0, none⟩)] (encF (m := m)) (cfF l) g 0 d.size wr := fun q os dk _ x y => by
        have hs := below_sw (encF (m := m)) (Below.refl g wr) hgs g q (Nat.le_refl _) dk os
        have hwg : w.heap.size < g := by have := HGW.out; omega
        have := cmp_any l (m + 1) HR.out HL.out b off c w.heap.size x.val y.val x.isLt y.isLt (sortWorld encF wr g 0 q dk os) ((hs.cell (p := ⟨w.heap.size, 0, none⟩) hwg).trans hbox) (fun k hk => (hs.cell (p := ⟨b, off + k, none⟩) (show b < g by omega)).trans ((HBL.out.cell (p := ⟨b, off + k, none⟩) hgb).trans (HC.out k hk)))
        exact this
      have HSF := Lib.hid (Try.slices_SortFunc (encF (m := m)) (fun _ => rfl) (cfF l) (cfF_swo l m) 37 #[.pointer (some ⟨w.heap.size, 0, none⟩)] g 0 (m + 1) d wr eg hcmp.lays hHo HA2.out.lt (by omega))
      rw [hds] at HSF
      have HHO := Lib.hid hHo
      clear hHo hcmp eg hbox
      go_wp2_with fail
      refine HSF.out.mono ?_
      rintro e w3 ⟨rfl, d', q, os, hp, hs, rfl⟩
      have HRW : Hid (IsRw l (d'.toList.map Fin.val)) := Lib.hid (rw_of_sorted HL.out HND.out hd0 (by rw [hds]; exact hp) (by rw [hds]; exact hs))
      have HFB : Hid (Below w.heap.size w (sortWorld encF wr g 0 q d' os)) := Lib.hid (below_sw _ HBL.out HBL.out.size g q (by have := HGW.out; omega) d' os)
      have HNM : Hid (Nums (sortWorld encF wr g 0 q d' os) (some ⟨g, 0, none⟩) (m + 1) ((d'.toList.map Fin.val).map Int.ofNat)) := Lib.hid (by
        have hzs : (List.ofFn (fun i : Fin (m + 1) => i)).map encF = (idArr (m + 1) (m + 1)).toList := by
          apply List.ext_getElem?
          intro j
          by_cases hj : j < m + 1
          · have hR : (idArr (m + 1) (m + 1)).toList[j]? = some (Value.int .i64 (j : Int)) := by
              rw [Array.getElem?_toList]
              have := idArr_at (m + 1) (m + 1) j hj
              rwa [if_pos hj] at this
            rw [hR, List.getElem?_map, List.getElem?_ofFn]
            simp [hj, encF]
          · rw [List.getElem?_eq_none (by simp; omega), List.getElem?_eq_none (by simp [idArr_size]; omega)]
        have ho : wr.ownsRow g 3 1 (.slice (some ⟨g, 0, none⟩) (m + 1) (m + 1)) (m + 1) ((List.ofFn (fun i : Fin (m + 1) => i)).map encF) :=
          ⟨by simp, .inr ⟨g, m + 1, _, rfl, Nat.le_refl _, HA2.out, Nat.le_refl _, by unfold maxLen; omega, by rw [idArr_size]; omega, by rw [hzs, List.take_of_length_le (by simp [idArr_size])]⟩⟩
        have h1 := Lib.ownsRow_putRow (q := q) (k := m + 1) (ys := d'.toList) ho (by have := hp.1; simpa [hds] using this) (Nat.le_refl _)
        have h2 := own_below h1 (below_grow (Below.refl _ _) (Nat.le_refl _) os)
        have h3 : (d'.toList.take (m + 1)).map encF = ((d'.toList.map Fin.val).map Int.ofNat).map (Value.int .i64) := by
          rw [List.take_of_length_le (by have := hp.1; simp [hds] at this; simp; omega), List.map_map, List.map_map]; rfl
        rw [h3] at h2
        exact (Nums.of_own h2).1)
      clear hp hs HSF HHO
      generalize sortWorld encF wr g 0 q d' os = w4 at HFB HNM ⊢
      go_wp2_with fail
      go_ret
      exact ⟨g, _, rfl, HRW.out, HNM.out, by have := HGW.out; omega, HFB.out⟩
end Go.Proofs.Ytjpimaiogdckpaa
