/-
  TRACE: the document's Bytes and Picks. Written by wip/tools/gen/trg.py.
-/
import Derived.Test.YtbfbfpjfmdannaaTrF
namespace Go.Proofs.Ytbfbfpjfmdannaa
open Go.ChangeShapes Go.WideShapes Go.ChangeAt Go.RowKit

set_option maxRecDepth 100000 in
set_option maxHeartbeats 4000000 in
theorem rbytes_any (p : Option Addr) (l : List EvV) (n cap : Nat) (hn : l.length = n) (hm : n ≤ 100) (w : World) (E : EvsR w p l) :
    Calls Try.prog 12 #[.slice p n cap] w (SlicePost w (trBytes l) (trBytes l).length) := by
  have HN := Lib.hid hn
  have HRNG := Lib.hid E.rng
  have HE := Lib.hid E.rows
  have HB := Lib.hid (Below.refl w.heap.size w)
  clear hn E
  obtain ⟨i0, hi0, hz0, hz1, hz2⟩ := info_parts int_info
  have HO : Hid (w.ownsRow w.heap.size 3 1 (.slice none 0 0) (8 * 0) ((evNums (l.take 0)).map (Value.int .i64))) := Lib.hid (World.ownsRow_nil _ _ _ _)
  go_enter Try.func12, Try.ntmps12
  go_wp2_with fail
  go_loopw [3, 4] (fun vl vi wr => ∃ i : Nat, vi = .int .i64 i ∧ i ≤ n ∧ ∃ W', W' = wr ∧ Hid (W'.ownsRow w.heap.size 3 1 vl (8 * i) ((evNums (l.take i)).map (Value.int .i64))) ∧ Hid (Below w.heap.size w W')) (fun _ vi _ => n - (intOf vi).toNat)
  case atStart => exact ⟨0, rfl, by omega, _, rfl, HO, HB⟩
  case round =>
    clear HO HB
    obtain ⟨i, rfl, hi, wr, rfl, HO, HB⟩ := hrel
    by_cases hlt : i < n
    · have hil : i < l.length := by rw [HN.out]; exact hlt
      obtain ⟨⟨e0, e1, e2, e3, e4, e5, e6, e7⟩, hx⟩ : ∃ x, l[i] = x := ⟨_, rfl⟩
      have hat := (HE.out.later HB.out).at_ i hil
      rw [hx] at hat
      obtain ⟨b, off, rfl, hbl, g0, g1, g2, g3, g4, g5, g6, g7⟩ := hat
      dsimp only at g0 g1 g2 g3 g4 g5 g6 g7
      have HX : Hid ((evNums (l.take (i + 1))).map (Value.int .i64) = (evNums (l.take i)).map (Value.int .i64) ++ [.int .i64 e0, .int .i64 e1, .int .i64 e2, .int .i64 e3, .int .i64 e4, .int .i64 e5, .int .i64 e6] ++ [.int .i64 (if e7 then 1 else 0)]) := Lib.hid (by
        rw [evNums_take l i hil, List.map_append, hx, List.append_assoc]
        rfl)
      obtain ⟨V0, hV0⟩ : ∃ V0, V0 = wr.alloc (Obj.cells #[.int .i64 e0, .int .i64 e1, .int .i64 e2, .int .i64 e3, .int .i64 e4, .int .i64 e5, .int .i64 e6, .bool e7] 48) := ⟨_, rfl⟩
      obtain ⟨V, hV⟩ : ∃ V, V = V0.alloc (Obj.cells #[.int .i64 e0, .int .i64 e1, .int .i64 e2, .int .i64 e3, .int .i64 e4, .int .i64 e5, .int .i64 e6] 3) := ⟨_, rfl⟩
      have hb0 : Below wr.heap.size wr V0 := by rw [hV0]; exact bel_alloc (Below.refl _ _) _
      have hs0 : V0.heap.size = wr.heap.size + 1 := by rw [hV0]; simp [go_sem]
      have KB : Blk V wr.heap.size 48 #[.int .i64 e0, .int .i64 e1, .int .i64 e2, .int .i64 e3, .int .i64 e4, .int .i64 e5, .int .i64 e6, .bool e7] := by rw [hV, hV0]; exact (Blk.made _ _ _).alloc _
      have hbv : Below wr.heap.size wr V := by rw [hV]; exact bel_alloc hb0 _
      have HNW : Hid (∀ q u, ([.int .i64 e0, .int .i64 e1, .int .i64 e2, .int .i64 e3, .int .i64 e4, .int .i64 e5, .int .i64 e6] : List Value)[q]? = some u → V.cell? ((⟨wr.heap.size + 1, 0, none⟩ : Addr).add q) = some u) := Lib.hid (by
        intro q u hu
        rw [addr_add, Nat.zero_add, ← hs0, hV, (Blk.made V0 _ _).cell]
        simpa using hu)
      have hown0 : ∀ q, (u3 : Value).ownBlock = some q → q < wr.heap.size := fun q hq => (HO.out.lt q hq).2
      have HOW := Lib.hid hown0
      have HO := Lib.hid (own_below HO.out hbv)
      have HB := Lib.hid (HB.out.trans (hbv.mono HB.out.size))
      have HKB := Lib.hid KB
      have HV : Hid (V = (wr.alloc (Obj.cells #[.int .i64 e0, .int .i64 e1, .int .i64 e2, .int .i64 e3, .int .i64 e4, .int .i64 e5, .int .i64 e6, .bool e7] 48)).alloc (Obj.cells #[.int .i64 e0, .int .i64 e1, .int .i64 e2, .int .i64 e3, .int .i64 e4, .int .i64 e5, .int .i64 e6] 3)) := Lib.hid (by rw [hV, hV0])
      clear hV hV0 hbv hb0 hs0 KB hx hown0
      cases e7 with
      | false =>
        go_wp2_with (first
          | (at_builtin
             rw [← HV.out]
             refine wpList_append_own_at V rfl (.tmp 16) (.tmp 36) _ rfl w.heap.size 3 i0 _ 1 8 Try.underlying50 hi0 hz0 hz1 hz2 rfl (by omega) _ (8 * i) _ rfl HO.out ⟨wr.heap.size + 1, 0, none⟩ 7 7 [.int .i64 e0, .int .i64 e1, .int .i64 e2, .int .i64 e3, .int .i64 e4, .int .i64 e5, .int .i64 e6] rfl rfl HNW.out (by simp [Value.oneCell']) (by unfold maxLen; omega) (by omega) HB.out.size ?_
             intro v6 w6 hown hg _ hwh
             have hg2 : World.grownBy V w6 (Value.ownBlock u3) := hg
             have kb := HKB.out.beside hg2 (fun e => absurd (HOW.out _ e.symm) (Nat.lt_irrefl _))
             have kk : w6.cell? ⟨wr.heap.size, 7, none⟩ = some (.bool false) := kb.cell 7
             have HB6 := Lib.hid (below_gb HB.out hg HB.out.size (fun q hq => (HO.out.lt q hq).1))
             obtain ⟨V2, hV2⟩ : ∃ V2, V2 = w6.alloc (Obj.cells #[.int .i64 0] 3) := ⟨_, rfl⟩
             have hbv : Below w6.heap.size w6 V2 := by rw [hV2]; exact bel_alloc (Below.refl _ _) _
             have HO7 := Lib.hid (own_below hown hbv)
             have HB7 := Lib.hid (HB6.out.trans (hbv.mono HB6.out.size))
             have HNW2 : Hid (∀ q u, ([.int .i64 0] : List Value)[q]? = some u → V2.cell? ((⟨w6.heap.size, 0, none⟩ : Addr).add q) = some u) := Lib.hid (by
               intro q u hu
               rw [addr_add, Nat.zero_add, hV2, (Blk.made w6 _ _).cell]
               simpa using hu)
             have HV2 := Lib.hid hV2
             clear hV2 hbv hown hg hwh HB6 HO HB HNW HKB HOW HV g0 g1 g2 g3 g4 g5 g6 g7 kb hg2)
          | (at_builtin
             rw [← HV2.out]
             refine wpList_append_own V2 rfl (.tmp 44) (.tmp 45) _ rfl w.heap.size 3 i0 _ 1 8 Try.underlying50 hi0 hz0 hz1 hz2 rfl (by omega) _ (8 * i + 7) _ rfl HO7.out ⟨w6.heap.size, 0, none⟩ 1 1 [.int .i64 0] rfl rfl HNW2.out (by simp [Value.oneCell']) (by unfold maxLen; omega) (by omega) HB7.out.size ?_
             intro v8 w8 hown hg _))
        have HO8 : Hid (w8.ownsRow w.heap.size 3 1 v8 (8 * (i + 1)) ((evNums (l.take (i + 1))).map (Value.int .i64))) := Lib.hid (by rw [HX.out]; exact hown)
        have HB8 := Lib.hid (below_gb HB7.out hg HB7.out.size (fun q hq => (HO7.out.lt q hq).1))
        clear hown hg HO7 HB7 HNW2 HV2 HX
        go_roundw
        case rel => exact ⟨i + 1, by simp, by omega, _, rfl, HO8, HB8⟩
        case measure => simp [intOf]; omega
      | true =>
        go_wp2_with (first
          | (at_builtin
             rw [← HV.out]
             refine wpList_append_own_at V rfl (.tmp 16) (.tmp 36) _ rfl w.heap.size 3 i0 _ 1 8 Try.underlying50 hi0 hz0 hz1 hz2 rfl (by omega) _ (8 * i) _ rfl HO.out ⟨wr.heap.size + 1, 0, none⟩ 7 7 [.int .i64 e0, .int .i64 e1, .int .i64 e2, .int .i64 e3, .int .i64 e4, .int .i64 e5, .int .i64 e6] rfl rfl HNW.out (by simp [Value.oneCell']) (by unfold maxLen; omega) (by omega) HB.out.size ?_
             intro v6 w6 hown hg _ hwh
             have hg2 : World.grownBy V w6 (Value.ownBlock u3) := hg
             have kb := HKB.out.beside hg2 (fun e => absurd (HOW.out _ e.symm) (Nat.lt_irrefl _))
             have kk : w6.cell? ⟨wr.heap.size, 7, none⟩ = some (.bool true) := kb.cell 7
             have HB6 := Lib.hid (below_gb HB.out hg HB.out.size (fun q hq => (HO.out.lt q hq).1))
             obtain ⟨V2, hV2⟩ : ∃ V2, V2 = w6.alloc (Obj.cells #[.int .i64 1] 3) := ⟨_, rfl⟩
             have hbv : Below w6.heap.size w6 V2 := by rw [hV2]; exact bel_alloc (Below.refl _ _) _
             have HO7 := Lib.hid (own_below hown hbv)
             have HB7 := Lib.hid (HB6.out.trans (hbv.mono HB6.out.size))
             have HNW2 : Hid (∀ q u, ([.int .i64 1] : List Value)[q]? = some u → V2.cell? ((⟨w6.heap.size, 0, none⟩ : Addr).add q) = some u) := Lib.hid (by
               intro q u hu
               rw [addr_add, Nat.zero_add, hV2, (Blk.made w6 _ _).cell]
               simpa using hu)
             have HV2 := Lib.hid hV2
             clear hV2 hbv hown hg hwh HB6 HO HB HNW HKB HOW HV g0 g1 g2 g3 g4 g5 g6 g7 kb hg2)
          | (at_builtin
             rw [← HV2.out]
             refine wpList_append_own V2 rfl (.tmp 41) (.tmp 42) _ rfl w.heap.size 3 i0 _ 1 8 Try.underlying50 hi0 hz0 hz1 hz2 rfl (by omega) _ (8 * i + 7) _ rfl HO7.out ⟨w6.heap.size, 0, none⟩ 1 1 [.int .i64 1] rfl rfl HNW2.out (by simp [Value.oneCell']) (by unfold maxLen; omega) (by omega) HB7.out.size ?_
             intro v8 w8 hown hg _))
        have HO8 : Hid (w8.ownsRow w.heap.size 3 1 v8 (8 * (i + 1)) ((evNums (l.take (i + 1))).map (Value.int .i64))) := Lib.hid (by rw [HX.out]; exact hown)
        have HB8 := Lib.hid (below_gb HB7.out hg HB7.out.size (fun q hq => (HO7.out.lt q hq).1))
        clear hown hg HO7 HB7 HNW2 HV2 HX
        go_roundw
        case rel => exact ⟨i + 1, by simp, by omega, _, rfl, HO8, HB8⟩
        case measure => simp [intOf]; omega
    · obtain rfl : i = n := by omega
      have hIN := evNums_in HRNG.out
      have HLEN := Lib.hid (evNums_len l)
      have HOI : Hid (OwnI wr w.heap.size u3 (evNums l)) := Lib.hid ⟨by
        have := HO.out
        rw [List.take_of_length_le (by rw [HN.out]; omega)] at this
        rw [HLEN.out, HN.out]; exact this, hIN⟩
      have HFL := Lib.hid (numsF_len hIN (by rw [HN.out]; omega))
      have HBL := Lib.hid (trBytes_len hIN (by rw [HN.out]; omega))
      clear HO hIN
      obtain ⟨pn, cn, hv, hints⟩ := HOI.out.opened
      have HI := Lib.hid hints
      subst hv
      clear HOI hints
      go_wp2_with fail
      refine (rNums_any pn (evNums l) cn wr HI.out (by rw [HLEN.out, HN.out]; omega)).mono ?_
      rintro r w2 h2
      obtain ⟨p2, c2, rfl, hx2, -, hp2, hb2⟩ := h2.slice rfl rfl
      have HX2 := Lib.hid hx2
      have HB2 := Lib.hid (HB.out.trans (hb2.mono HB.out.size))
      clear hx2 hb2 h2
      go_wp2_with fail
      refine (rSeal_any p2 _ c2 w2 HX2.out (by have := HFL.out; omega) hp2).mono ?_
      rintro r w3 h3
      obtain ⟨p3, c3, rfl, hx3, hc3, hp3, hb3⟩ := h3.slice rfl rfl
      have HX3 := Lib.hid hx3
      have HB3 := Lib.hid (HB2.out.trans (hb3.mono HB2.out.size))
      clear hx3 hb3 h3
      go_wp2_with fail
      go_ret
      exact ⟨p3, c3, rfl, HX3.out, hc3, hp3, HB3.out⟩

theorem pkInfo3 : (Try.prog.info? 55).map (fun i => (i.zero, i.size, i.bytes)) = some (some (.agg #[.int .i64 0, .int .i64 0, .int .i64 0]), 3, 24) := by kernel_rfl
theorem pks_take (l : List EvV) (i : Nat) (h : i < l.length) : pkV (pks (l.take (i + 1))) = pkV (pks (l.take i)) ++ l[i].pick.cells := by
  rw [pks_V, pks_V]; exact flat_take _ l i h
set_option maxRecDepth 100000 in
set_option maxHeartbeats 4000000 in
theorem rpicks_any (p : Option Addr) (l : List EvV) (n cap : Nat) (hn : l.length = n) (hm : n ≤ 1000) (w : World) (E : Evs w p l) :
    Calls Try.prog 15 #[.slice p n cap] w fun r w' => ∃ q c, r = .returned (.slice q n c) ∧ Pks w' q (pks l) ∧ Below w.heap.size w w' := by
  have HN := Lib.hid hn
  have HE := Lib.hid E
  have HB := Lib.hid (Below.refl w.heap.size w)
  clear hn E
  obtain ⟨i0, hi0⟩ : ∃ i, Try.prog.info? 55 = some i := ⟨_, rfl⟩
  have hz := pkInfo3
  rw [hi0] at hz
  simp only [Option.map_some, Option.some.injEq, Prod.mk.injEq] at hz
  obtain ⟨hz0, hz1, hz2⟩ := hz
  have HO : Hid (w.ownsRow w.heap.size 55 3 (.slice none 0 0) 0 (pkV (pks (l.take 0)))) := Lib.hid (World.ownsRow_nil _ _ _ _)
  go_enter Try.func15, Try.ntmps15
  go_wp2_with fail
  go_loopw [3, 4] (fun vl vi wr => ∃ i : Nat, vi = .int .i64 i ∧ i ≤ n ∧ ∃ W', W' = wr ∧ Hid (W'.ownsRow w.heap.size 55 3 vl i (pkV (pks (l.take i)))) ∧ Hid (Below w.heap.size w W')) (fun _ vi _ => n - (intOf vi).toNat)
  case atStart => exact ⟨0, rfl, by omega, _, rfl, HO, HB⟩
  case round =>
    clear HO HB
    obtain ⟨i, rfl, hi, wr, rfl, HO, HB⟩ := hrel
    by_cases hlt : i < n
    · have hil : i < l.length := by rw [HN.out]; exact hlt
      obtain ⟨⟨e0, e1, e2, e3, e4, e5, e6, e7⟩, hx⟩ : ∃ x, l[i] = x := ⟨_, rfl⟩
      have hat := (HE.out.later HB.out).at_ i hil
      rw [hx] at hat
      obtain ⟨b, off, rfl, hbl, g0, g1, g2, g3, g4, g5, g6, g7⟩ := hat
      dsimp only at g0 g1 g2 g3 g4 g5 g6 g7
      have hX := pks_take l i hil
      rw [hx] at hX
      clear g1 g3 g4 g5 g6 g7 hx
      by_cases h2 : e2 = 0
      · subst h2
        have HX : Hid (pkV (pks (l.take (i + 1))) = pkV (pks (l.take i)) ++ [.int .i64 3, .int .i64 e0, .int .i64 0]) := Lib.hid (by rw [hX]; unfold EvV.pick PkV.cells; simp)
        obtain ⟨V1, hV1⟩ : ∃ V1, V1 = wr.alloc (Obj.cells #[.int .i64 3, .int .i64 e0, .int .i64 0] 55) := ⟨_, rfl⟩
        obtain ⟨V2, hV2⟩ : ∃ V2, V2 = V1.alloc (Obj.cells #[.int .i64 3, .int .i64 e0, .int .i64 0] 55) := ⟨_, rfl⟩
        have hb1 : Below wr.heap.size wr V1 := by rw [hV1]; exact bel_alloc (Below.refl _ _) _
        have hs1 : wr.heap.size + 1 = V1.heap.size := by rw [hV1]; simp [go_sem]
        have hbv : Below wr.heap.size wr V2 := by rw [hV2]; exact bel_alloc hb1 _
        have HNW : Hid (∀ q u, ([.int .i64 3, .int .i64 e0, .int .i64 0] : List Value)[q]? = some u → V2.cell? ((⟨wr.heap.size + 1, 0, none⟩ : Addr).add q) = some u) := Lib.hid (by
          intro q u hu
          rw [addr_add, Nat.zero_add, hs1, hV2, (Blk.made V1 _ _).cell]
          simpa using hu)
        have HO2 := Lib.hid (own_below HO.out hbv)
        have HB2 := Lib.hid (HB.out.trans (hbv.mono HB.out.size))
        have HV : Hid (V2 = (wr.alloc (Obj.cells #[.int .i64 3, .int .i64 e0, .int .i64 0] 55)).alloc (Obj.cells #[.int .i64 3, .int .i64 e0, .int .i64 0] 55)) := Lib.hid (by rw [hV2, hV1])
        clear hV1 hV2 hb1 hs1 hbv hX HO HB
        go_wp2_with (at_builtin; rw [← HV.out]; refine wpList_append_own V2 rfl (.tmp 26) (.tmp 28) _ rfl w.heap.size 55 i0 _ 3 24 Try.underlying31 hi0 hz0 hz1 hz2 rfl (by omega) _ i _ rfl HO2.out ⟨wr.heap.size + 1, 0, none⟩ 1 1 [.int .i64 3, .int .i64 e0, .int .i64 0] rfl rfl HNW.out (by simp [Value.oneCell']) (by unfold maxLen; omega) (by omega) HB2.out.size ?_; intro v8 w8 hown hg _)
        have HO8 : Hid (w8.ownsRow w.heap.size 55 3 v8 (i + 1) (pkV (pks (l.take (i + 1))))) := Lib.hid (by rw [HX.out]; exact hown)
        have HB8 := Lib.hid (below_gb HB2.out hg HB2.out.size (fun q hq => (HO2.out.lt q hq).1))
        clear hown hg HO2 HB2 HNW HV HX
        go_wp2_with fail
        go_roundw
        case rel => exact ⟨i + 1, by simp, by omega, _, rfl, HO8, HB8⟩
        case measure => simp [intOf]; omega
      · have h3 : (e2 == 0) = false := by simpa using h2
        have HX : Hid (pkV (pks (l.take (i + 1))) = pkV (pks (l.take i)) ++ [.int .i64 1, .int .i64 e0, .int .i64 0]) := Lib.hid (by rw [hX]; unfold EvV.pick PkV.cells; simp [h2])
        obtain ⟨V1, hV1⟩ : ∃ V1, V1 = wr.alloc (Obj.cells #[.int .i64 1, .int .i64 e0, .int .i64 0] 55) := ⟨_, rfl⟩
        obtain ⟨V2, hV2⟩ : ∃ V2, V2 = V1.alloc (Obj.cells #[.int .i64 1, .int .i64 e0, .int .i64 0] 55) := ⟨_, rfl⟩
        have hb1 : Below wr.heap.size wr V1 := by rw [hV1]; exact bel_alloc (Below.refl _ _) _
        have hs1 : wr.heap.size + 1 = V1.heap.size := by rw [hV1]; simp [go_sem]
        have hbv : Below wr.heap.size wr V2 := by rw [hV2]; exact bel_alloc hb1 _
        have HNW : Hid (∀ q u, ([.int .i64 1, .int .i64 e0, .int .i64 0] : List Value)[q]? = some u → V2.cell? ((⟨wr.heap.size + 1, 0, none⟩ : Addr).add q) = some u) := Lib.hid (by
          intro q u hu
          rw [addr_add, Nat.zero_add, hs1, hV2, (Blk.made V1 _ _).cell]
          simpa using hu)
        have HO2 := Lib.hid (own_below HO.out hbv)
        have HB2 := Lib.hid (HB.out.trans (hbv.mono HB.out.size))
        have HV : Hid (V2 = (wr.alloc (Obj.cells #[.int .i64 1, .int .i64 e0, .int .i64 0] 55)).alloc (Obj.cells #[.int .i64 1, .int .i64 e0, .int .i64 0] 55)) := Lib.hid (by rw [hV2, hV1])
        clear hV1 hV2 hb1 hs1 hbv hX HO HB
        go_wp2_with (at_builtin; rw [← HV.out]; refine wpList_append_own V2 rfl (.tmp 26) (.tmp 28) _ rfl w.heap.size 55 i0 _ 3 24 Try.underlying31 hi0 hz0 hz1 hz2 rfl (by omega) _ i _ rfl HO2.out ⟨wr.heap.size + 1, 0, none⟩ 1 1 [.int .i64 1, .int .i64 e0, .int .i64 0] rfl rfl HNW.out (by simp [Value.oneCell']) (by unfold maxLen; omega) (by omega) HB2.out.size ?_; intro v8 w8 hown hg _)
        have HO8 : Hid (w8.ownsRow w.heap.size 55 3 v8 (i + 1) (pkV (pks (l.take (i + 1))))) := Lib.hid (by rw [HX.out]; exact hown)
        have HB8 := Lib.hid (below_gb HB2.out hg HB2.out.size (fun q hq => (HO2.out.lt q hq).1))
        clear hown hg HO2 HB2 HNW HV HX
        go_wp2_with fail
        go_roundw
        case rel => exact ⟨i + 1, by simp, by omega, _, rfl, HO8, HB8⟩
        case measure => simp [intOf]; omega
    · obtain rfl : i = n := by omega
      obtain ⟨vv, hvv⟩ : ∃ v, v = u3 := ⟨_, rfl⟩
      rw [← hvv] at HO ⊢
      have HF : Hid (∀ q c, vv = .slice q i c → Pks wr q (pks l)) := Lib.hid fun q c hv => by
        have ho := HO.out
        rw [hv, List.take_of_length_le (by rw [HN.out]; omega)] at ho
        exact Pks.of_own ho
      have hform : ∃ q c, vv = .slice q i c := by
        rcases HO.out.2 with ⟨h1, h2⟩ | ⟨gg, cp, cur, h1, _⟩
        · exact ⟨none, 0, by rw [h1, h2]⟩
        · exact ⟨_, cp, h1⟩
      obtain ⟨q8, c8, hq8⟩ := hform
      clear HO hvv
      subst hq8
      go_wp2_with fail
      go_ret
      exact ⟨q8, c8, rfl, HF.out _ _ rfl, HB.out⟩
end Go.Proofs.Ytbfbfpjfmdannaa
