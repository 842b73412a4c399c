/-
  TRACE: Bytes, of all rows of up to a hundred events.
-/
import Derived.Test.YtbfbfpjfmdannaaTrC
import Derived.Maps.AppendAt
import Derived.Test.YtbfbfpjfmdannaaOwn
import Derived.Test.YtbfbfpjfmdannaaWireR
import Derived.Test.YtbfbfpjfmdannaaWireU
namespace Go.Proofs.Ytbfbfpjfmdannaa
open Go.ChangeShapes Go.WideShapes Go.ChangeAt Go.RowKit

theorem Cells.kept {w w1 : World} {g off : Nat} {cs : List Value} {row : Option Nat} (h : Cells w (some ⟨g, off, none⟩) cs) (hg : w.grownBy w1 row) (hr : row ≠ some g) : Cells w1 (some ⟨g, off, none⟩) cs :=
  ⟨fun i hi => by
    obtain ⟨b, o, h1, h2, h3⟩ := h.at_ i hi
    simp only [Option.some.injEq, Addr.mk.injEq, and_true] at h1
    obtain ⟨rfl, rfl⟩ := h1
    refine ⟨_, _, rfl, Nat.lt_of_lt_of_le h2 hg.size, ?_⟩
    have := hg.block g h2 (fun e => hr e.symm)
    unfold World.cell? at h3 ⊢
    simp only at h3 ⊢
    rw [this]; exact h3⟩
theorem Cells.got {w : World} {g : Nat} {cs : List Value} (h : Cells w (some ⟨g, 0, none⟩) cs) {i : Nat} {v : Value} (hv : cs[i]? = some v) : w.cell? ⟨g, i, none⟩ = some v := by
  obtain ⟨hi, rfl⟩ := List.getElem?_eq_some_iff.1 hv
  obtain ⟨b, o, h1, h2, h3⟩ := h.at_ i hi
  simp only [Option.some.injEq, Addr.mk.injEq, and_true] at h1
  obtain ⟨rfl, rfl⟩ := h1
  rw [Nat.zero_add] at h3
  exact h3
theorem rowsV_at (l : List EvV) (i j : Nat) (hi : i < l.length) (hj : j < 8) : (rowsV l)[i * 8 + j]? = (l[i].rowCells)[j]? := by
  have h1 : l = l.take i ++ l[i] :: l.drop (i + 1) := by rw [List.getElem_cons_drop, List.take_append_drop]
  have h2 : rowsV l = rowsV (l.take i) ++ (l[i].rowCells ++ rowsV (l.drop (i + 1))) := by
    conv => lhs; rw [h1]
    unfold rowsV
    rw [List.flatMap_append, List.flatMap_cons]
  have h3 : (rowsV (l.take i)).length = i * 8 := by unfold rowsV; rw [flat_len _ 8 (fun _ => rfl), List.length_take]; omega
  rw [h2, List.getElem?_append_right (by omega), h3, show i * 8 + j - i * 8 = j by omega, List.getElem?_append_left (by exact hj)]
theorem evNums_map (l : List EvV) : (evNums l).map (Value.int .i64) = rowsV l := by
  unfold evNums rowsV
  rw [List.map_flatMap]
  rfl

theorem make_nums (n : Nat) (hn : n ≤ 1000000) (w : World) : (Instr.makeSlice 50 (.int .i64 0) (.int .i64 (n : Int))).run Try.prog w = .ok (.slice (some ⟨w.heap.size, 0, none⟩) 0 n) (w.alloc (.cells (madeCells #[Value.int .i64 0] n) 3)) := by
  obtain ⟨i0, hi0, hz0, hz1, hz2⟩ := info_parts int_info
  have hr := run_make (P := Try.prog) w 50 3 i0 _ Try.underlying50 hi0 hz0 .i64 .i64 0 n (by omega) (by omega) (by rw [hz2]; omega) (by omega)
  rw [hz1] at hr
  simp only [Int.toNat_natCast] at hr
  have e : (Value.int .i64 0).cells = #[Value.int .i64 0] := rfl
  simpa [e] using hr

set_option maxRecDepth 100000 in
set_option maxHeartbeats 4000000 in
theorem bytes_gen (p : Option Addr) (l : List EvV) (n cap : Nat) (hn : l.length = n) (hm : n ≤ 1000) (hF : (numsF (evNums l)).length ≤ 10000) (w : World) (E : EvsR w p l) :
    Calls Try.prog 9 #[.slice p n cap] w (SlicePost w (trBytes l) (trBytes l).length) := by
  have HN := Lib.hid hn
  have HRNG := Lib.hid E.rng
  clear hn
  obtain ⟨i0, hi0, hz0, hz1, hz2⟩ := info_parts int_info
  obtain ⟨S, hS⟩ : ∃ S, 8 * n = S := ⟨_, rfl⟩
  have hSb : S ≤ 8000 := by omega
  have hSn : (8 : Int) * (n : Int) = S := by omega
  have wS : IntKind.i64.wrap (S : Int) = S := by rw [IntKind.wrap_i64]; omega
  have hmk := fun wx => make_nums S (by omega) wx
  obtain ⟨V, hV⟩ : ∃ V, V = w.alloc (Obj.cells (madeCells #[Value.int .i64 0] S) 3) := ⟨_, rfl⟩
  have HO : Hid (V.ownsRow w.heap.size 3 1 (.slice (some ⟨w.heap.size, 0, none⟩) 0 S) 0 ((evNums (l.take 0)).map (Value.int .i64))) := Lib.hid (by
    rw [hV]
    refine ⟨rfl, .inr ⟨w.heap.size, S, _, rfl, Nat.le_refl _, Blk.made _ _ _, by omega, by unfold maxLen; omega, by rw [size_madeCells, Nat.mul_one], by simp; rfl⟩⟩)
  have hbv : Below w.heap.size w V := by rw [hV]; exact bel_alloc (Below.refl _ _) _
  have HE := Lib.hid (E.rows.later hbv)
  have HB := Lib.hid hbv
  have HGV : Hid (w.heap.size < V.heap.size) := Lib.hid (by rw [hV]; simp [go_sem])
  have HV := Lib.hid hV
  clear E hV hbv
  go_enter Try.func9, Try.ntmps9
  go_wp2_with fail
  rw [← HV.out]
  refine (mapRow_any p l n cap HN.out (by omega) V HE.out).mono ?_
  rintro r w1 ⟨g, rfl, hge, hc, hb1⟩
  have HO := Lib.hid (own_below HO.out hb1)
  have HB := Lib.hid (HB.out.trans (hb1.mono HB.out.size))
  have HC := Lib.hid hc
  have HNG : Hid ((Value.slice (some ⟨w.heap.size, 0, none⟩) 0 S).ownBlock ≠ some g) := Lib.hid (by have := HGV.out; simp [Value.ownBlock]; omega)
  clear hge hc hb1 HV HGV HE hmk
  go_wp2_with fail
  go_loopw [3, 13] (fun vl vi wr => ∃ i : Nat, vi = .int .i64 i ∧ i ≤ n ∧ ∃ W', W' = wr ∧ Hid (W'.ownsRow w.heap.size 3 1 vl (8 * i) ((evNums (l.take i)).map (Value.int .i64))) ∧ Hid (Cells W' (some ⟨g, 0, none⟩) (rowsV l)) ∧ Hid (vl.ownBlock ≠ some g) ∧ Hid (Below w.heap.size w W')) (fun _ vi _ => n - (intOf vi).toNat)
  case atStart => exact ⟨0, rfl, by omega, _, rfl, HO, HC, HNG, HB⟩
  case round =>
    clear HO HC HNG HB
    obtain ⟨i, rfl, hi, wr, rfl, HO, HC, HNG, HB⟩ := hrel
    by_cases hlt : i < n
    · have hil : i < l.length := by rw [HN.out]; exact hlt
      obtain ⟨⟨e0, e1, e2, e3, e4, e5, e6, e7⟩, hx⟩ : ∃ x, l[i] = x := ⟨_, rfl⟩
      have hat : ∀ j v, j < 8 → ((EvV.mk e0 e1 e2 e3 e4 e5 e6 e7).rowCells)[j]? = some v → wr.cell? ⟨g, i * 8 + j, none⟩ = some v := fun j v hj hv => HC.out.got (by rw [rowsV_at l i j hil hj, hx]; exact hv)
      obtain ⟨Z, hZ⟩ : ∃ Z, (EvV.mk e0 e1 e2 e3 e4 e5 e6 e7).ok01 = Z := ⟨_, rfl⟩
      unfold EvV.rowCells at hat
      rw [hZ] at hat
      have c0 : wr.cell? ⟨g, i * 8, none⟩ = some (.int .i64 e0) := hat 0 _ (by omega) rfl
      have c1 := hat 1 _ (by omega) rfl
      have c2 := hat 2 _ (by omega) rfl
      have c3 := hat 3 _ (by omega) rfl
      have c4 := hat 4 _ (by omega) rfl
      have c5 := hat 5 _ (by omega) rfl
      have c6 := hat 6 _ (by omega) rfl
      have c7 := hat 7 _ (by omega) rfl
      have cl : g < wr.heap.size := World.block_lt_of_cell? wr _ c0
      have HX : Hid ((evNums (l.take (i + 1))).map (Value.int .i64) = (evNums (l.take i)).map (Value.int .i64) ++ [.int .i64 e0, .int .i64 e1, .int .i64 e2, .int .i64 e3, .int .i64 e4, .int .i64 e5, .int .i64 e6, .int .i64 Z]) := Lib.hid (by
        rw [evNums_take l i hil, List.map_append, hx]
        unfold EvV.row
        rw [hZ]; rfl)
      obtain ⟨V1, hV1⟩ : ∃ V1, V1 = wr.alloc (Obj.cells #[.int .i64 e0, .int .i64 e1, .int .i64 e2, .int .i64 e3, .int .i64 e4, .int .i64 e5, .int .i64 e6, .int .i64 Z] 59) := ⟨_, rfl⟩
      have hbv : Below wr.heap.size wr V1 := by rw [hV1]; exact bel_alloc (Below.refl _ _) _
      have HNW : Hid (∀ q u, ([.int .i64 e0, .int .i64 e1, .int .i64 e2, .int .i64 e3, .int .i64 e4, .int .i64 e5, .int .i64 e6, .int .i64 Z] : List Value)[q]? = some u → V1.cell? ((⟨wr.heap.size, 0, none⟩ : Addr).add q) = some u) := Lib.hid (by
        intro q u hu
        rw [addr_add, Nat.zero_add, hV1, (Blk.made wr _ _).cell]
        simpa using hu)
      have HO := Lib.hid (own_below HO.out hbv)
      have HC := Lib.hid (HC.out.later hbv)
      have HB := Lib.hid (HB.out.trans (hbv.mono HB.out.size))
      have HGL : Hid (g < V1.heap.size) := Lib.hid (Nat.lt_of_lt_of_le cl hbv.size)
      have HV1 := Lib.hid hV1
      clear hV1 hbv hx hZ hat
      go_wp2_with (at_builtin; rw [← HV1.out]; refine wpList_append_own_at V1 rfl (.tmp 17) (.tmp 18) _ rfl w.heap.size 3 i0 _ 1 8 Try.underlying50 hi0 hz0 hz1 hz2 rfl (by omega) _ (8 * i) _ rfl HO.out ⟨wr.heap.size, 0, none⟩ 8 8 [.int .i64 e0, .int .i64 e1, .int .i64 e2, .int .i64 e3, .int .i64 e4, .int .i64 e5, .int .i64 e6, .int .i64 Z] rfl rfl HNW.out (by simp [Value.oneCell']) (by unfold maxLen; omega) (by omega) HB.out.size ?_; intro v6 w6 hown hg _ hwh)
      have HO6 : Hid (w6.ownsRow w.heap.size 3 1 v6 (8 * (i + 1)) ((evNums (l.take (i + 1))).map (Value.int .i64))) := Lib.hid (by rw [HX.out]; exact hown)
      have HC6 := Lib.hid (HC.out.kept hg HNG.out)
      have HN6 : Hid (v6.ownBlock ≠ some g) := Lib.hid (by
        have h2 := HGL.out
        rcases hwh with h | h
        · rw [h]; exact HNG.out
        · rw [h]; intro e; injection e with e; omega)
      have HB6 := Lib.hid (below_gb HB.out hg HB.out.size (fun q hq => (HO.out.lt q hq).1))
      clear hown hg hwh HV1 HNW HX HO HC HNG HB HGL c0 c1 c2 c3 c4 c5 c6 c7 cl
      go_wp2_with fail
      go_roundw
      case rel => exact ⟨i + 1, by simp, by omega, _, rfl, HO6, HC6, HN6, HB6⟩
      case measure => simp [intOf]; omega
    · obtain rfl : i = n := by omega
      have hIN := evNums_in HRNG.out
      have HLEN := Lib.hid (evNums_len l)
      have HOI : Hid (OwnI wr w.heap.size u3 (evNums l)) := Lib.hid ⟨by
        have := HO.out
        rw [List.take_of_length_le (by rw [HN.out]; omega)] at this
        rw [HLEN.out, HN.out]; exact this, hIN⟩
      have HFL := Lib.hid hF
      clear HO HC HNG hIN
      obtain ⟨pn, cn, hv, hints⟩ := HOI.out.opened
      have HI := Lib.hid hints
      subst hv
      clear HOI hints
      go_wp2_with fail
      refine (Nums_any pn (evNums l) cn wr HI.out (by rw [HLEN.out, HN.out]; omega)).mono ?_
      rintro r w2 h2
      obtain ⟨p2, c2, rfl, hx2, -, hp2, hb2⟩ := h2.slice rfl rfl
      have HX2 := Lib.hid hx2
      have HB2 := Lib.hid (HB.out.trans (hb2.mono HB.out.size))
      clear hx2 hb2 h2
      go_wp2_with fail
      refine (Seal_any p2 _ c2 w2 HX2.out (by have := HFL.out; omega) hp2).mono ?_
      rintro r w3 h3
      obtain ⟨p3, c3, rfl, hx3, hc3, hp3, hb3⟩ := h3.slice rfl rfl
      have HX3 := Lib.hid hx3
      have HB3 := Lib.hid (HB2.out.trans (hb3.mono HB2.out.size))
      clear hx3 hb3 h3
      go_wp2_with fail
      go_ret
      exact ⟨p3, c3, rfl, HX3.out, hc3, hp3, HB3.out⟩
theorem bytes_any (p : Option Addr) (l : List EvV) (n cap : Nat) (hn : l.length = n) (hm : n ≤ 100) (w : World) (E : EvsR w p l) :
    Calls Try.prog 9 #[.slice p n cap] w (SlicePost w (trBytes l) (trBytes l).length) :=
  bytes_gen p l n cap hn (by omega) (by have := numsF_len (evNums_in E.rng) (by omega); omega) w E
end Go.Proofs.Ytbfbfpjfmdannaa
