/-
  OM: all labels anew.
-/
import Derived.Test.YtjpimaiogdckpaaOmF
namespace Go.Proofs.Ytjpimaiogdckpaa
open Go.ChangeShapes Go.WideShapes Go.ChangeAt Go.RowKit Go.Sort

/-- labels, those of the first k places new -/
def mixL (l : List Int) (k : Nat) : List Int := l.map fun x => if place l x < k then 1048576 * (place l x : Int) else x
theorem mixL_len (l : List Int) (k : Nat) : (mixL l k).length = l.length := by simp [mixL]
theorem mixL_zero (l : List Int) : mixL l 0 = l := by simp [mixL]
theorem mixL_all (l : List Int) : mixL l l.length = newL l := by
  unfold mixL newL
  apply List.map_congr_left
  intro x hx
  rw [if_pos (place_top hx)]
theorem place_inj {l : List Int} {x y : Int} (hx : x ∈ l) (hy : y ∈ l) (h : place l x = place l y) : x = y := by
  have h1 := place_iff hx hy
  have h2 := place_iff hy hx
  omega
def mixA (l : List Int) (k : Nat) (rest : List Value) : Array Value := ((mixL l k).map (Value.int .i64) ++ rest).toArray
theorem mixA_set {l : List Int} (hn : l.Nodup) (k x : Nat) (hx : x < l.length) (hp : place l (l.getD x 0) = k) (rest : List Value) : (mixA l k rest).setIfInBounds x (.int .i64 (1048576 * (k : Int))) = mixA l (k + 1) rest := by
  have key : ((mixL l k).map (Value.int .i64)).set x (.int .i64 (1048576 * (k : Int))) = (mixL l (k + 1)).map (Value.int .i64) := by
    apply List.ext_getElem
    · simp [mixL]
    · intro j h1 h2
      have hj : j < l.length := by simpa [mixL] using h2
      rw [List.getElem_set]
      by_cases hxj : x = j
      · subst hxj
        rw [if_pos rfl]
        have e : l[x] = l.getD x 0 := by rw [List.getD_eq_getElem?_getD, List.getElem?_eq_getElem hj]; rfl
        simp only [mixL, List.getElem_map]
        rw [e, hp, if_pos (Nat.lt_succ_self k)]
      · rw [if_neg hxj]
        have hne : place l l[j] ≠ k := fun h => by
          have e : l[j] = l.getD j 0 := by rw [List.getD_eq_getElem?_getD, List.getElem?_eq_getElem hj]; rfl
          rw [← hp] at h
          have := place_inj (List.getElem_mem hj) (getD_mem hx) h
          rw [e] at this
          exact hxj (nodup_getD hn hj hx this).symm
        simp only [mixL, List.getElem_map]
        by_cases h3 : place l l[j] < k
        · rw [if_pos h3, if_pos (by omega)]
        · rw [if_neg h3, if_neg (by omega)]
  unfold mixA
  rw [← key]
  apply Array.ext_getElem?
  intro j
  simp only [Array.getElem?_setIfInBounds, List.getElem?_toArray, List.size_toArray]
  by_cases hjx : x = j
  · subst hjx
    rw [if_pos rfl]
    have hs : x < ((mixL l k).map (Value.int .i64) ++ rest).length := by simp [mixL]; omega
    rw [if_pos hs, List.getElem?_append_left (by simp [mixL]; omega), List.getElem?_set_self (by simp [mixL]; omega)]
  · rw [if_neg hjx]
    by_cases hj : j < l.length
    · rw [List.getElem?_append_left (by simp [mixL]; omega), List.getElem?_append_left (by simp [mixL]; omega), List.getElem?_set_ne hjx]
    · rw [List.getElem?_append_right (by simp [mixL]; omega), List.getElem?_append_right (by simp [mixL]; omega)]
      simp [mixL]
theorem mixA_at (l : List Int) (k : Nat) (rest : List Value) (j : Nat) (hj : j < l.length) : ∃ y, (mixA l k rest)[j]? = some (.int .i64 y) := by
  unfold mixA
  rw [List.getElem?_toArray, List.getElem?_append_left (by simp [mixL]; omega), List.getElem?_map, List.getElem?_eq_getElem (by rw [mixL_len]; omega)]
  exact ⟨_, rfl⟩

set_option maxRecDepth 100000 in
set_option maxHeartbeats 4000000 in
theorem anew_any (l : List Int) (n : Nat) (hl : l.length = n) (hrt : Rt l) (base g cap : Nat) (w : World) (hbw : base ≤ w.heap.size) (ho : w.ownsRow base 3 1 (.slice (some ⟨g, 0, none⟩) n cap) n (l.map (Value.int .i64))) :
    Calls Try.prog 28 #[.slice (some ⟨g, 0, none⟩) n cap] w fun e w' => e = .returned (.tuple #[]) ∧ w'.ownsRow base 3 1 (.slice (some ⟨g, 0, none⟩) n cap) n ((newL l).map (Value.int .i64)) ∧ Below base w w' := by
  have h0 : 0 < n := by have := hrt.1; omega
  have h1 : n ≤ 1000 := by have := hrt.2.1; omega
  obtain ⟨g', cap', he, k1, k2, k3, k4, k5, k6, cur, k7, k8⟩ := own_holds ho h0
  cases he
  have hN := (Nums.of_own ho).1
  have HRW := Lib.hid (row_any l n hl h0 h1 hrt.2.2.1 hrt.2.2.2 _ _ w hN)
  obtain ⟨rest, hrest⟩ : ∃ r, cur.toList.drop n = r := ⟨_, rfl⟩
  have hcur : cur = mixA l 0 rest := by
    have h2 : cur.toList.take n = l.map (Value.int .i64) := by
      rcases ho.2 with ⟨h7, _⟩ | ⟨g'', cap'', cur', h7, h8, h9, h10, h11, h12, h13⟩
      · cases h7
      · cases h7
        rw [k7] at h9
        cases h9
        rw [Nat.mul_one] at h13
        exact h13
    unfold mixA
    rw [mixL_zero, ← h2, ← hrest, List.take_append_drop]
  have hrl : n + rest.length = cap := by
    rw [← hrest, List.length_drop, Array.length_toList, k8]; omega
  have HL := Lib.hid hl
  have HRT := Lib.hid hrt
  have HK : Hid (Blk w g 3 (mixA l 0 rest)) := Lib.hid (by rw [← hcur]; exact k7)
  have HRL := Lib.hid hrl
  clear hl hrt ho hN hrest hcur hrl k5 k6 k7 k8
  go_enter Try.func28, Try.ntmps28
  go_wp2_with fail
  refine HRW.out.mono ?_
  rintro e w1 ⟨gr, r, rfl, hrw, hnr, hgr, hb1⟩
  have HK1 := Lib.hid (HK.out.later hb1)
  have HB1 := Lib.hid (hb1.mono hbw)
  have HR := Lib.hid hrw
  have HN := Lib.hid hnr
  have hgg : gr ≠ g := by omega
  have hrlen : r.length = n := by rw [hrw.len, HL.out]
  have HRN := Lib.hid hrlen
  clear hrw hnr hb1 HK hrlen
  go_wp2_with fail
  go_loopw [7] (fun i wr => ∃ k : Nat, i = .int .i64 k ∧ k ≤ n ∧ ∃ W', W' = wr ∧ Hid (Blk W' g 3 (mixA l k rest)) ∧ Hid (Nums W' (some ⟨gr, 0, none⟩) n (r.map Int.ofNat)) ∧ Hid (Below base w W')) (fun i _ => n - (intOf i).toNat)
  case atStart => exact ⟨0, rfl, Nat.zero_le _, _, rfl, HK1, HN, HB1⟩
  case round =>
    clear HK1 HN HB1
    obtain ⟨k, rfl, hk, wr, rfl, HA, HM, HB⟩ := hrel
    by_cases hlt : k < n
    · have hkr : k < r.length := by rw [HRN.out]; exact hlt
      obtain ⟨bb, oo, e1, -, c1⟩ := HM.out.at_ k (by simpa using hkr)
      simp only [Option.some.injEq, Addr.mk.injEq, and_true] at e1
      obtain ⟨rfl, rfl⟩ := e1
      have hx := HR.out.lt k hkr
      have hpl := HR.out.place k hkr
      rw [Nat.zero_add, List.getElem_map] at c1
      obtain ⟨x, hxe⟩ : ∃ x, r[k] = x := ⟨_, rfl⟩
      rw [hxe] at c1 hx hpl
      have c1 : wr.cell? ⟨gr, k, none⟩ = some (.int .i64 (x : Int)) := c1
      have hxn : x < n := by rw [← HL.out]; exact hx
      obtain ⟨y, hy⟩ := mixA_at l k rest x hx
      have c2 := (HA.out.cell x).trans hy
      have f2 := HA.out.free x
      have i1 : (0 : Int) ≤ k := by omega
      have i2 : (k : Int) < n := by omega
      have i3 : (0 : Int) ≤ x := by omega
      have i4 : (x : Int) < n := by omega
      have e2 : IntKind.i64.wrap ((k : Int) * 1048576) = 1048576 * (k : Int) := by rw [IntKind.wrap_i64]; omega
      have HS := Lib.hid (mixA_set HRT.out.2.2.2 k x hx hpl rest)
      have HA2 : Hid (Blk (wr.setCell ⟨g, x, none⟩ (.int .i64 (1048576 * (k : Int)))) g 3 (mixA l (k + 1) rest)) := Lib.hid (by have := HA.out.put x (.int .i64 (1048576 * (k : Int))); rwa [HS.out] at this)
      have HM2 : Hid (Nums (wr.setCell ⟨g, x, none⟩ (.int .i64 (1048576 * (k : Int)))) (some ⟨gr, 0, none⟩) n (r.map Int.ofNat)) := Lib.hid (HM.out.far g x _ (fun _ b' off e => by injection e with e; injection e with e; omega))
      have HB2 : Hid (Below base w (wr.setCell ⟨g, x, none⟩ (.int .i64 (1048576 * (k : Int))))) := Lib.hid (HB.out.setCell (p := ⟨g, x, none⟩) k1 _)
      clear hxe hpl hy hx hkr HS HA HM HB
      go_wp2_with fail
      go_roundw
      case rel => exact ⟨k + 1, by simp, by omega, _, rfl, HA2, HM2, HB2⟩
      case measure => simp [intOf]; omega
    · have hkn : k = n := by omega
      have hd : decide ((k : Int) < n) = false := by simp; omega
      have HO : Hid (wr.ownsRow base 3 1 (.slice (some ⟨g, 0, none⟩) n cap) n ((newL l).map (Value.int .i64))) := Lib.hid (by
        have hA := HA.out
        rw [hkn] at hA
        refine ⟨by simp [newL, HL.out], .inr ⟨g, cap, _, rfl, k1, hA, k3, k4, by have := HRL.out; simp [mixA, mixL, HL.out]; omega, ?_⟩⟩
        have hm := mixL_all l
        rw [HL.out] at hm
        unfold mixA
        rw [hm, Nat.mul_one]
        show List.take n ((newL l).map (Value.int .i64) ++ rest) = _
        rw [List.take_append_of_le_length (by simp [newL, HL.out]), List.take_of_length_le (by simp [newL, HL.out])])
      clear hkn HA HM
      go_wp2_with fail
      go_end0
      exact ⟨rfl, HO.out, HB.out⟩
end Go.Proofs.Ytjpimaiogdckpaa
