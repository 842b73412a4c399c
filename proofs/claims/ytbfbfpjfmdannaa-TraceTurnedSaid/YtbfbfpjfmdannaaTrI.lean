/-
  TRACE: the examples with which each statement begins. Written by wip/tools/gen/tri.py.
-/
import Derived.Test.YtbfbfpjfmdannaaTrH
namespace Go.Proofs.Ytbfbfpjfmdannaa
open Go.ChangeShapes Go.WideShapes Go.ChangeAt Go.RowKit

theorem ParsePost.at {w w' : World} {bs : List Int} {r : Ending} {x : List EvV} (h : ParsePost w bs r w') (hx : trParse bs = some x) : ∃ q c, r = .returned (.tuple #[.slice q x.length c, .int .i64 0]) ∧ EvsR w' q x ∧ Below w.heap.size w w' := by
  obtain ⟨l, q, c, er, h0, h1, h2, rfl, h4, h5⟩ := h
  obtain ⟨rfl, rfl⟩ := h1 x hx
  exact ⟨q, c, rfl, h4, h5⟩
theorem ParsePost.no {w w' : World} {bs : List Int} {r : Ending} (h : ParsePost w bs r w') (hx : trParse bs = Option.none) : ∃ q c, r = .returned (.tuple #[.slice q 0 c, .int .i64 3]) ∧ Evs w' q [] ∧ Below w.heap.size w w' := by
  obtain ⟨l, q, c, er, h0, h1, h2, rfl, h4, h5⟩ := h
  obtain ⟨rfl, rfl⟩ := h0 hx
  exact ⟨q, c, rfl, Evs.nil _ _, h5⟩
def trL0 : List EvV := [⟨1, 0, 1, 2, 0, 0, 7, true⟩, ⟨2, 0, 0, 0, 0, 0, 0, false⟩]
theorem trL0_in : ∀ e ∈ trL0, e.In := by unfold EvV.In In64; decide
theorem trL0_nin : ∀ n ∈ evNums trL0, In64 n := evNums_in trL0_in
theorem trL0_len : (trBytes trL0).length ≤ 9000 := (trBytes_len trL0_nin (by decide)).2
theorem trL0_parse : trParse (trBytes trL0) = some trL0 := trParse_bytes trL0_nin (by decide)
theorem trL0_open : openF (trBytes trL0) = some (numsF (evNums trL0), (trBytes trL0).length) := by
  have h := openF_whole (numsF (evNums trL0)) [] (by have := numsF_len trL0_nin (by decide); omega)
  rw [List.append_nil] at h
  exact h
theorem trL0_nums : numsG (numsF (evNums trL0)) = some (evNums trL0, (numsF (evNums trL0)).length) := by
  have h := numsG_whole (evNums trL0) [] trL0_nin (by decide)
  rw [List.append_nil] at h
  exact h

set_option maxRecDepth 100000 in
set_option maxHeartbeats 8000000 in
theorem awake_any (w : World) : Calls Try.prog 8 #[] w fun e w' => e = .returned (.bool true) ∧ Below w.heap.size w w' := by
  have hB := Below.refl w.heap.size w
  go_enter Try.func8, Try.ntmps8
  have HhB := Lib.hid hB
  clear  hB
  go_wp2_with fail
  have hB := HhB.out
  clear  HhB
  refine (one_any _).mono ?_
  rintro e w1 ⟨rfl, hb⟩
  replace hB := hB.trans (hb.mono hB.size)
  clear hb
  unfold EvV.agg
  obtain ⟨V1, hV1⟩ : ∃ V, V = w1.alloc (Obj.cells #[.int .i64 1, .int .i64 0, .int .i64 1, .int .i64 2, .int .i64 0, .int .i64 0, .int .i64 7, .bool true, .int .i64 2, .int .i64 0, .int .i64 0, .int .i64 0, .int .i64 0, .int .i64 0, .int .i64 0, .bool false] 48) := ⟨_, rfl⟩
  have hbv : Below w1.heap.size w1 V1 := by rw [hV1]; exact bel_alloc (Below.refl _ _) _
  have KV1 : Blk V1 w1.heap.size 48 #[.int .i64 1, .int .i64 0, .int .i64 1, .int .i64 2, .int .i64 0, .int .i64 0, .int .i64 7, .bool true, .int .i64 2, .int .i64 0, .int .i64 0, .int .i64 0, .int .i64 0, .int .i64 0, .int .i64 0, .bool false] := by rw [hV1]; exact Blk.made _ _ _
  replace hB := hB.trans (hbv.mono hB.size)
  clear hbv
  have HV1 := Lib.hid hV1
  clear hV1
  have A1 : Evs V1 (some ⟨w1.heap.size, 0, none⟩) trL0 := ⟨fun i hi => ⟨_, 0, rfl, KV1.lt, by
    have : i = 0 ∨ i = 1 := by have : i < 2 := hi; omega
    rcases this with rfl | rfl <;> exact ⟨KV1.cell _, KV1.cell _, KV1.cell _, KV1.cell _, KV1.cell _, KV1.cell _, KV1.cell _, KV1.cell _⟩⟩⟩
  clear KV1
  have HA1 := Lib.hid A1
  have HhB := Lib.hid hB
  clear A1 hB
  go_wp2_with fail
  have A1 := HA1.out
  have hB := HhB.out
  clear HA1 HhB
  rw [← HV1.out]
  refine (bytes_any _ trL0 2 2 rfl (by omega) V1 ⟨A1, trL0_in⟩).mono ?_
  rintro e w2 ⟨pb, cb, rfl, XB, hcb, hpb, hb⟩
  replace A1 := A1.later hb
  replace hB := hB.trans (hb.mono hB.size)
  clear hb
  have HA1 := Lib.hid A1
  have HXB := Lib.hid XB
  have HhB := Lib.hid hB
  clear A1 XB hB
  go_wp2_with fail
  have A1 := HA1.out
  have XB := HXB.out
  have hB := HhB.out
  clear HA1 HXB HhB
  have hpo := parse_any pb (trBytes trL0) cb _ XB (by have := trL0_len; omega) hcb hpb
  refine (hpo).mono ?_
  rintro e w3 hpp
  clear hpo
  obtain ⟨ql, cl, rfl, A2, hb⟩ := hpp.at trL0_parse
  clear hpp
  replace A1 := A1.later hb
  replace XB := XB.later hb
  replace hB := hB.trans (hb.mono hB.size)
  clear hb
  have A2 := A2.rows
  have HA1 := Lib.hid A1
  have HXB := Lib.hid XB
  have HA2 := Lib.hid A2
  have HhB := Lib.hid hB
  clear A1 XB A2 hB
  go_wp2_with fail
  have A1 := HA1.out
  have XB := HXB.out
  have A2 := HA2.out
  have hB := HhB.out
  clear HA1 HXB HA2 HhB
  refine (Open_any pb (trBytes trL0) cb _ XB (by have := trL0_len; omega) hcb hpb).mono ?_
  rintro e w4 ⟨hb, ⟨ho, rfl⟩ | ⟨inner, at_, q, cq, ho, hat, hil, rfl, XI, hic, hin⟩⟩
  · rw [trL0_open] at ho; cases ho
  rw [trL0_open] at ho
  obtain ⟨rfl, rfl⟩ := Prod.mk.inj (Option.some.inj ho)
  clear ho hat
  replace A1 := A1.later hb
  replace XB := XB.later hb
  replace A2 := A2.later hb
  replace hB := hB.trans (hb.mono hB.size)
  clear hb
  have HA1 := Lib.hid A1
  have HXB := Lib.hid XB
  have HA2 := Lib.hid A2
  have HXI := Lib.hid XI
  have HhB := Lib.hid hB
  clear A1 XB A2 XI hB
  go_wp2_with fail
  have A1 := HA1.out
  have XB := HXB.out
  have A2 := HA2.out
  have XI := HXI.out
  have hB := HhB.out
  clear HA1 HXB HA2 HXI HhB
  refine (GetNums_any q _ cq _ ⟨XI, by have := trL0_len; omega, hic, hin⟩).mono ?_
  rintro e w5 ⟨hb, ⟨hg, rfl⟩ | ⟨nums, at2, gn, hg, ha2, rfl, NI⟩⟩
  · rw [trL0_nums] at hg; cases hg
  rw [trL0_nums] at hg
  obtain ⟨rfl, rfl⟩ := Prod.mk.inj (Option.some.inj hg)
  clear hg ha2 XI hin hic
  replace A1 := A1.later hb
  replace XB := XB.later hb
  replace A2 := A2.later hb
  replace hB := hB.trans (hb.mono hB.size)
  clear hb
  rw [show (evNums trL0).length = 16 from rfl]
  rw [show evNums trL0 = [1, 0, 1, 2, 0, 0, 7, 1, 2, 0, 0, 0, 0, 0, 0, 0] from rfl] at NI
  have HA1 := Lib.hid A1
  have HXB := Lib.hid XB
  have HA2 := Lib.hid A2
  have HNI := Lib.hid NI
  have HhB := Lib.hid hB
  clear A1 XB A2 NI hB
  go_wp2_with fail
  have A1 := HA1.out
  have XB := HXB.out
  have A2 := HA2.out
  have NI := HNI.out
  have hB := HhB.out
  clear HA1 HXB HA2 HNI HhB
  refine (picks_any ql trL0 2 cl rfl (by omega) _ A2).mono ?_
  rintro e w3 ⟨gp, rfl, PK, hb⟩
  replace A1 := A1.later hb
  replace XB := XB.later hb
  replace A2 := A2.later hb
  replace NI := NI.later hb
  replace hB := hB.trans (hb.mono hB.size)
  clear hb
  have HA1 := Lib.hid A1
  have HXB := Lib.hid XB
  have HA2 := Lib.hid A2
  have HNI := Lib.hid NI
  have HPK := Lib.hid PK
  have HhB := Lib.hid hB
  clear A1 XB A2 NI PK hB
  go_wp2_with fail
  have A1 := HA1.out
  have XB := HXB.out
  have A2 := HA2.out
  have NI := HNI.out
  have PK := HPK.out
  have hB := HhB.out
  clear HA1 HXB HA2 HNI HPK HhB
  refine (one_any _).mono ?_
  rintro e w4 ⟨rfl, hb⟩
  replace A1 := A1.later hb
  replace XB := XB.later hb
  replace A2 := A2.later hb
  replace NI := NI.later hb
  replace PK := PK.later hb
  replace hB := hB.trans (hb.mono hB.size)
  clear hb
  unfold EvV.agg
  obtain ⟨V2, hV2⟩ : ∃ V, V = w4.alloc (Obj.cells #[.int .i64 1, .int .i64 0, .int .i64 1, .int .i64 2, .int .i64 0, .int .i64 0, .int .i64 7, .bool true, .int .i64 2, .int .i64 0, .int .i64 0, .int .i64 0, .int .i64 0, .int .i64 0, .int .i64 0, .bool false] 48) := ⟨_, rfl⟩
  have hbv : Below w4.heap.size w4 V2 := by rw [hV2]; exact bel_alloc (Below.refl _ _) _
  have KV2 : Blk V2 w4.heap.size 48 #[.int .i64 1, .int .i64 0, .int .i64 1, .int .i64 2, .int .i64 0, .int .i64 0, .int .i64 7, .bool true, .int .i64 2, .int .i64 0, .int .i64 0, .int .i64 0, .int .i64 0, .int .i64 0, .int .i64 0, .bool false] := by rw [hV2]; exact Blk.made _ _ _
  replace A1 := A1.later hbv
  replace XB := XB.later hbv
  replace A2 := A2.later hbv
  replace NI := NI.later hbv
  replace PK := PK.later hbv
  replace hB := hB.trans (hbv.mono hB.size)
  clear hbv
  have HV2 := Lib.hid hV2
  clear hV2
  have A3 : Evs V2 (some ⟨w4.heap.size, 0, none⟩) trL0 := ⟨fun i hi => ⟨_, 0, rfl, KV2.lt, by
    have : i = 0 ∨ i = 1 := by have : i < 2 := hi; omega
    rcases this with rfl | rfl <;> exact ⟨KV2.cell _, KV2.cell _, KV2.cell _, KV2.cell _, KV2.cell _, KV2.cell _, KV2.cell _, KV2.cell _⟩⟩⟩
  clear KV2
  have HA1 := Lib.hid A1
  have HXB := Lib.hid XB
  have HA2 := Lib.hid A2
  have HNI := Lib.hid NI
  have HPK := Lib.hid PK
  have HA3 := Lib.hid A3
  have HhB := Lib.hid hB
  clear A1 XB A2 NI PK A3 hB
  go_wp2_with fail
  have A1 := HA1.out
  have XB := HXB.out
  have A2 := HA2.out
  have NI := HNI.out
  have PK := HPK.out
  have A3 := HA3.out
  have hB := HhB.out
  clear HA1 HXB HA2 HNI HPK HA3 HhB
  rw [← HV2.out]
  refine (same_any trL0 trL0 2 2 rfl rfl (by omega) (by omega) true (by decide) _ _ _ _ V2 A2 A3).mono ?_
  rintro e w5 ⟨rfl, hb⟩
  replace A1 := A1.later hb
  replace XB := XB.later hb
  replace A2 := A2.later hb
  replace NI := NI.later hb
  replace PK := PK.later hb
  replace A3 := A3.later hb
  replace hB := hB.trans (hb.mono hB.size)
  clear hb
  obtain ⟨V3, hV3⟩ : ∃ V, V = w5.alloc (Obj.cells #[.int .i64 1, .int .i64 0, .int .i64 1, .int .i64 2, .int .i64 0, .int .i64 0, .int .i64 7, .int .i64 1, .int .i64 2, .int .i64 0, .int .i64 0, .int .i64 0, .int .i64 0, .int .i64 0, .int .i64 0, .int .i64 0] 3) := ⟨_, rfl⟩
  have hbv : Below w5.heap.size w5 V3 := by rw [hV3]; exact bel_alloc (Below.refl _ _) _
  have KV3 : Blk V3 w5.heap.size 3 #[.int .i64 1, .int .i64 0, .int .i64 1, .int .i64 2, .int .i64 0, .int .i64 0, .int .i64 7, .int .i64 1, .int .i64 2, .int .i64 0, .int .i64 0, .int .i64 0, .int .i64 0, .int .i64 0, .int .i64 0, .int .i64 0] := by rw [hV3]; exact Blk.made _ _ _
  replace A1 := A1.later hbv
  replace XB := XB.later hbv
  replace A2 := A2.later hbv
  replace NI := NI.later hbv
  replace PK := PK.later hbv
  replace A3 := A3.later hbv
  replace hB := hB.trans (hbv.mono hB.size)
  clear hbv
  have HV3 := Lib.hid hV3
  clear hV3
  have NJ : Ints V3 (some ⟨w5.heap.size, 0, none⟩) [1, 0, 1, 2, 0, 0, 7, 1, 2, 0, 0, 0, 0, 0, 0, 0] := Ints.of_blk KV3 (by unfold In64; decide)
  clear KV3
  have HA1 := Lib.hid A1
  have HXB := Lib.hid XB
  have HA2 := Lib.hid A2
  have HNI := Lib.hid NI
  have HPK := Lib.hid PK
  have HA3 := Lib.hid A3
  have HNJ := Lib.hid NJ
  have HhB := Lib.hid hB
  clear A1 XB A2 NI PK A3 NJ hB
  go_wp2_with fail
  have A1 := HA1.out
  have XB := HXB.out
  have A2 := HA2.out
  have NI := HNI.out
  have PK := HPK.out
  have A3 := HA3.out
  have NJ := HNJ.out
  have hB := HhB.out
  clear HA1 HXB HA2 HNI HPK HA3 HNJ HhB
  rw [← HV3.out]
  refine (rInts_any _ _ [1, 0, 1, 2, 0, 0, 7, 1, 2, 0, 0, 0, 0, 0, 0, 0] [1, 0, 1, 2, 0, 0, 7, 1, 2, 0, 0, 0, 0, 0, 0, 0] _ _ V3 NI NJ (by decide) (by decide)).mono ?_
  rintro e w6 ⟨rfl, hb⟩
  replace A1 := A1.later hb
  replace XB := XB.later hb
  replace A2 := A2.later hb
  replace NI := NI.later hb
  replace PK := PK.later hb
  replace A3 := A3.later hb
  replace NJ := NJ.later hb
  replace hB := hB.trans (hb.mono hB.size)
  clear hb
  simp only [decide_true]
  obtain ⟨V4, hV4⟩ : ∃ V, V = w6.alloc (Obj.cells #[.int .i64 1, .int .i64 1, .int .i64 0, .int .i64 3, .int .i64 2, .int .i64 0] 55) := ⟨_, rfl⟩
  have hbv : Below w6.heap.size w6 V4 := by rw [hV4]; exact bel_alloc (Below.refl _ _) _
  have KV4 : Blk V4 w6.heap.size 55 #[.int .i64 1, .int .i64 1, .int .i64 0, .int .i64 3, .int .i64 2, .int .i64 0] := by rw [hV4]; exact Blk.made _ _ _
  replace A1 := A1.later hbv
  replace XB := XB.later hbv
  replace A2 := A2.later hbv
  replace NI := NI.later hbv
  replace PK := PK.later hbv
  replace A3 := A3.later hbv
  replace NJ := NJ.later hbv
  replace hB := hB.trans (hbv.mono hB.size)
  clear hbv
  have HV4 := Lib.hid hV4
  clear hV4
  have PL : Pks V4 (some ⟨w6.heap.size, 0, none⟩) (pks trL0) := ⟨fun i hi => ⟨_, 0, rfl, KV4.lt, by
    have : i = 0 ∨ i = 1 := by have : i < 2 := hi; omega
    rcases this with rfl | rfl <;> exact ⟨KV4.cell _, KV4.cell _, KV4.cell _⟩⟩⟩
  clear KV4
  have HA1 := Lib.hid A1
  have HXB := Lib.hid XB
  have HA2 := Lib.hid A2
  have HNI := Lib.hid NI
  have HPK := Lib.hid PK
  have HA3 := Lib.hid A3
  have HNJ := Lib.hid NJ
  have HPL := Lib.hid PL
  have HhB := Lib.hid hB
  clear A1 XB A2 NI PK A3 NJ PL hB
  go_wp2_with fail
  have A1 := HA1.out
  have XB := HXB.out
  have A2 := HA2.out
  have NI := HNI.out
  have PK := HPK.out
  have A3 := HA3.out
  have NJ := HNJ.out
  have PL := HPL.out
  have hB := HhB.out
  clear HA1 HXB HA2 HNI HPK HA3 HNJ HPL HhB
  rw [← HV4.out]
  refine (picked_any (pks trL0) (pks trL0) 2 2 rfl rfl (by omega) (by omega) true (by decide) _ _ _ _ V4 PK PL).mono ?_
  rintro e w7 ⟨rfl, hb⟩
  replace A1 := A1.later hb
  replace XB := XB.later hb
  replace A2 := A2.later hb
  replace NI := NI.later hb
  replace PK := PK.later hb
  replace A3 := A3.later hb
  replace NJ := NJ.later hb
  replace PL := PL.later hb
  replace hB := hB.trans (hb.mono hB.size)
  clear hb
  have HA1 := Lib.hid A1
  have HXB := Lib.hid XB
  have HA2 := Lib.hid A2
  have HNI := Lib.hid NI
  have HPK := Lib.hid PK
  have HA3 := Lib.hid A3
  have HNJ := Lib.hid NJ
  have HPL := Lib.hid PL
  have HhB := Lib.hid hB
  clear A1 XB A2 NI PK A3 NJ PL hB
  go_wp2_with fail
  have A1 := HA1.out
  have XB := HXB.out
  have A2 := HA2.out
  have NI := HNI.out
  have PK := HPK.out
  have A3 := HA3.out
  have NJ := HNJ.out
  have PL := HPL.out
  have hB := HhB.out
  clear HA1 HXB HA2 HNI HPK HA3 HNJ HPL HhB
  go_ret
  exact ⟨rfl, hB⟩
end Go.Proofs.Ytbfbfpjfmdannaa
