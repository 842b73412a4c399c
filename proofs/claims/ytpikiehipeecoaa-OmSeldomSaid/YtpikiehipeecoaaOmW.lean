/-
  OM: the example; rows that came in.
-/
import Derived.Test.YtpikiehipeecoaaOmI
namespace Go.Proofs.Ytpikiehipeecoaa
open Go.ChangeShapes Go.WideShapes Go.ChangeAt Go.RowKit Go.Sort

theorem Nums.of_row {w : World} {a : Option Addr} {len cap : Nat} {zs : List Int} (h : IsRow .i64 w a len cap zs) : Nums w a cap (zs.take len) ∧ (zs.take len).length = len := by
  obtain ⟨h1, h2, h3⟩ := Ints.of_row h
  refine ⟨⟨⟨fun i hi => ?_⟩, ?_, ?_, ?_⟩, h2⟩
  · rw [List.length_map] at hi
    obtain ⟨b, off, g1, g2, g3⟩ := h1.cells i hi
    exact ⟨b, off, g1, g2, by rw [g3]; simp⟩
  · rcases h with ⟨_, h0, _, rfl⟩ | ⟨x, hx, g1, g2, g3, g4, g5⟩
    · simp
    · omega
  · rcases h with ⟨_, h0, hc, rfl⟩ | ⟨x, hx, g1, g2, g3, g4, g5⟩
    · omega
    · exact g2
  · rcases h with ⟨_, h0, hc, rfl⟩ | ⟨x, hx, g1, g2, g3, g4, g5⟩
    · intro _; exact hc
    · intro e; rw [hx] at e; cases e
theorem before_at (l : List Int) (n : Nat) (hl : l.length = n) (hrt : Rt l) (p : Option Addr) (c : Nat) (x y : Nat) (xi yi : Int) (R : Bool) (hxi : (x : Int) = xi) (hyi : (y : Int) = yi) (hx : x < n) (hy : y < n) (hR : decide (l.getD x 0 < l.getD y 0) = R) (w : World) (h : Nums w p c l) :
    Calls Try.prog 14 #[.agg #[.slice p n c], .int .i64 xi, .int .i64 yi] w fun e w' => e = .returned (.bool R) ∧ Below w.heap.size w w' := by
  subst hxi hyi hR
  exact before_any l n hl hrt p c x y hx hy w h
theorem right_at (l : List Int) (n : Nat) (hl : l.length = n) (hn : n ≤ 1000000) (R : Bool) (hR : decide (Rt l) = R) (p : Option Addr) (c : Nat) (w : World) (h : Nums w p c l) :
    Calls Try.prog 13 #[.agg #[.slice p n c]] w fun e w' => e = .returned (.bool R) ∧ Below w.heap.size w w' := by
  subst hR
  exact right_any l n hl hn p c w h
theorem refright_at (l : List Int) (n : Nat) (hl : l.length = n) (R : Bool) (hR : decide (Rt l) = R) (p : Option Addr) (c : Nat) (w : World) (h : Nums w p c l) :
    Calls Try.prog 15 #[.agg #[.slice p n c]] w fun e w' => e = .returned (.bool R) ∧ Below w.heap.size w w' := by
  subst hR
  exact refright_any l n hl p c w h
theorem rw_shown : IsRw [0, 1048576, 524288] [0, 2, 1] := ⟨by decide, by decide⟩
set_option maxRecDepth 100000 in
set_option maxHeartbeats 8000000 in
theorem shown_any (w : World) : Calls Try.prog 8 #[] w fun e w' => e = .returned (.bool true) ∧ Below w.heap.size w w' := by
  have hB := Below.refl w.heap.size w
  go_enter Try.func8, Try.ntmps8
  have HhB := Lib.hid hB
  clear  hB
  go_wp2_with fail
  have hB := HhB.out
  clear  HhB
  refine (new_any _).mono ?_
  rintro e w1 ⟨g0, rfl, N0, hb⟩
  replace hB := hB.trans (hb.mono hB.size)
  clear hb
  have HN0 := Lib.hid N0
  have HhB := Lib.hid hB
  clear N0 hB
  go_wp2_with fail
  have N0 := HN0.out
  have hB := HhB.out
  clear HN0 HhB
  refine (behind_at [0] [0, 1048576] 1 2 0 0 1 rfl (by decide) (by decide) (by decide) rfl rfl rfl (by decide) _ _ _ N0).mono ?_
  rintro e w2 ⟨q1, c1, rfl, N1, hb⟩
  replace N0 := N0.later hb
  replace hB := hB.trans (hb.mono hB.size)
  clear hb
  obtain ⟨V2, hV⟩ : ∃ V, V = w2.alloc (Obj.cells #[.slice q1 2 c1] 26) := ⟨_, rfl⟩
  have KA : Blk V2 w2.heap.size 26 #[.slice q1 2 c1] := by rw [hV]; exact Blk.made _ _ _
  have hbv : Below w2.heap.size w2 V2 := by rw [hV]; exact below_alloc1 _ _
  replace N0 := N0.later hbv
  replace N1 := N1.later hbv
  replace hB := hB.trans (hbv.mono hB.size)
  clear hbv
  have HV := Lib.hid hV
  clear hV
  have HN0 := Lib.hid N0
  have HN1 := Lib.hid N1
  have HKA := Lib.hid KA
  have HhB := Lib.hid hB
  clear N0 N1 KA hB
  go_wp2_with fail
  have N0 := HN0.out
  have N1 := HN1.out
  have KA := HKA.out
  have hB := HhB.out
  clear HN0 HN1 HKA HhB
  rw [← HV.out]
  clear HV
  have a0 : World.cell? _ ⟨w2.heap.size, 0, none⟩ = some (.slice q1 2 c1) := KA.cell 0
  have al := KA.lt
  have HN0 := Lib.hid N0
  have HN1 := Lib.hid N1
  have HKA := Lib.hid KA
  have HhB := Lib.hid hB
  clear N0 N1 KA hB
  go_wp2_with fail
  clear a0 al
  have N0 := HN0.out
  have N1 := HN1.out
  have KA := HKA.out
  have hB := HhB.out
  clear HN0 HN1 HKA HhB
  refine (behind_at [0, 1048576] [0, 1048576, 524288] 2 3 0 0 2 rfl (by decide) (by decide) (by decide) rfl rfl rfl (by decide) _ _ _ N1).mono ?_
  rintro e w3 ⟨q2, c2, rfl, N2, hb⟩
  replace N0 := N0.later hb
  replace N1 := N1.later hb
  replace KA := KA.later hb
  replace hB := hB.trans (hb.mono hB.size)
  clear hb
  obtain ⟨V3, hV⟩ : ∃ V, V = w3.alloc (Obj.cells #[.slice q2 3 c2] 26) := ⟨_, rfl⟩
  have KB : Blk V3 w3.heap.size 26 #[.slice q2 3 c2] := by rw [hV]; exact Blk.made _ _ _
  have hbv : Below w3.heap.size w3 V3 := by rw [hV]; exact below_alloc1 _ _
  replace N0 := N0.later hbv
  replace N1 := N1.later hbv
  replace KA := KA.later hbv
  replace N2 := N2.later hbv
  replace hB := hB.trans (hbv.mono hB.size)
  clear hbv
  have HV := Lib.hid hV
  clear hV
  have a0 : World.cell? _ ⟨w2.heap.size, 0, none⟩ = some (.slice q1 2 c1) := KA.cell 0
  have al := KA.lt
  have HN0 := Lib.hid N0
  have HN1 := Lib.hid N1
  have HKA := Lib.hid KA
  have HN2 := Lib.hid N2
  have HKB := Lib.hid KB
  have HhB := Lib.hid hB
  clear N0 N1 KA N2 KB hB
  go_wp2_with fail
  clear a0 al
  have N0 := HN0.out
  have N1 := HN1.out
  have KA := HKA.out
  have N2 := HN2.out
  have KB := HKB.out
  have hB := HhB.out
  clear HN0 HN1 HKA HN2 HKB HhB
  rw [← HV.out]
  clear HV
  have b0 : World.cell? _ ⟨w3.heap.size, 0, none⟩ = some (.slice q2 3 c2) := KB.cell 0
  have bl := KB.lt
  have HN0 := Lib.hid N0
  have HN1 := Lib.hid N1
  have HKA := Lib.hid KA
  have HN2 := Lib.hid N2
  have HKB := Lib.hid KB
  have HhB := Lib.hid hB
  clear N0 N1 KA N2 KB hB
  go_wp2_with fail
  clear b0 bl
  have N0 := HN0.out
  have N1 := HN1.out
  have KA := HKA.out
  have N2 := HN2.out
  have KB := HKB.out
  have hB := HhB.out
  clear HN0 HN1 HKA HN2 HKB HhB
  refine (behind_out [0, 1048576, 524288] 3 rfl (by decide) _ _ 3 3 rfl (by decide) _ N2).mono ?_
  rintro e w4 ⟨q3, c3, rfl, N3, hb⟩
  replace N0 := N0.later hb
  replace N1 := N1.later hb
  replace KA := KA.later hb
  replace N2 := N2.later hb
  replace KB := KB.later hb
  replace hB := hB.trans (hb.mono hB.size)
  clear hb
  obtain ⟨V4, hV⟩ : ∃ V, V = w4.alloc (Obj.cells #[.slice q3 3 c3] 26) := ⟨_, rfl⟩
  have KC : Blk V4 w4.heap.size 26 #[.slice q3 3 c3] := by rw [hV]; exact Blk.made _ _ _
  have hbv : Below w4.heap.size w4 V4 := by rw [hV]; exact below_alloc1 _ _
  replace N0 := N0.later hbv
  replace N1 := N1.later hbv
  replace KA := KA.later hbv
  replace N2 := N2.later hbv
  replace KB := KB.later hbv
  replace hB := hB.trans (hbv.mono hB.size)
  clear hbv
  have HV := Lib.hid hV
  clear hV
  have HVC := HV
  have b0 : World.cell? _ ⟨w3.heap.size, 0, none⟩ = some (.slice q2 3 c2) := KB.cell 0
  rw [HVC.out] at b0
  have bl := KB.lt
  rw [HVC.out] at bl
  obtain ⟨V5, hV⟩ : ∃ V, V = V4.alloc (Obj.cells #[.int .i64 0, .int .i64 1048576, .int .i64 524288] 3) := ⟨_, rfl⟩
  have KI : Blk V5 V4.heap.size 3 #[.int .i64 0, .int .i64 1048576, .int .i64 524288] := by rw [hV]; exact Blk.made _ _ _
  have hbv : Below V4.heap.size V4 V5 := by rw [hV]; exact below_alloc1 _ _
  replace N0 := N0.later hbv
  replace N1 := N1.later hbv
  replace KA := KA.later hbv
  replace N2 := N2.later hbv
  replace KB := KB.later hbv
  replace KC := KC.later hbv
  replace hB := hB.trans (hbv.mono hB.size)
  clear hbv
  have HV := Lib.hid hV
  clear hV
  have HN0 := Lib.hid N0
  have HN1 := Lib.hid N1
  have HKA := Lib.hid KA
  have HN2 := Lib.hid N2
  have HKB := Lib.hid KB
  have HKC := Lib.hid KC
  have HKI := Lib.hid KI
  have HhB := Lib.hid hB
  clear N0 N1 KA N2 KB KC KI hB
  go_wp2_with fail
  clear b0 bl
  have N0 := HN0.out
  have N1 := HN1.out
  have KA := HKA.out
  have N2 := HN2.out
  have KB := HKB.out
  have KC := HKC.out
  have KI := HKI.out
  have hB := HhB.out
  clear HN0 HN1 HKA HN2 HKB HKC HKI HhB
  rw [← HVC.out, ← HV.out]
  have NI := Nums.of_blk (xs := [0, 1048576, 524288]) (cap := 3) KI (by rfl) (by decide) (by decide)
  rw [show V4.heap.size = w4.heap.size + 1 from by rw [HVC.out]; simp] at NI
  clear HV HVC
  refine (ints_eq _ _ 3 _ _ [0, 1048576, 524288] rfl (by decide) _ N2 NI).mono ?_
  rintro e w6 ⟨rfl, hb⟩
  replace N0 := N0.later hb
  replace N1 := N1.later hb
  replace KA := KA.later hb
  replace N2 := N2.later hb
  replace KB := KB.later hb
  replace KC := KC.later hb
  replace KI := KI.later hb
  replace hB := hB.trans (hb.mono hB.size)
  clear hb
  have b0 : World.cell? _ ⟨w3.heap.size, 0, none⟩ = some (.slice q2 3 c2) := KB.cell 0
  have bl := KB.lt
  have HN0 := Lib.hid N0
  have HN1 := Lib.hid N1
  have HKA := Lib.hid KA
  have HN2 := Lib.hid N2
  have HKB := Lib.hid KB
  have HKC := Lib.hid KC
  have HKI := Lib.hid KI
  have HhB := Lib.hid hB
  clear N0 N1 KA N2 KB KC KI hB
  go_wp2_with fail
  clear b0 bl
  have N0 := HN0.out
  have N1 := HN1.out
  have KA := HKA.out
  have N2 := HN2.out
  have KB := HKB.out
  have KC := HKC.out
  have KI := HKI.out
  have hB := HhB.out
  clear HN0 HN1 HKA HN2 HKB HKC HKI HhB
  refine (rowO_any [0, 1048576, 524288] 3 rfl (by decide) _ _ _ N2).mono ?_
  rintro e w7 ⟨gr, r, rfl, hrw, NR, -, hb⟩
  replace N0 := N0.later hb
  replace N1 := N1.later hb
  replace KA := KA.later hb
  replace N2 := N2.later hb
  replace KB := KB.later hb
  replace KC := KC.later hb
  replace KI := KI.later hb
  replace hB := hB.trans (hb.mono hB.size)
  clear hb
  obtain rfl := hrw.unique rw_shown
  clear hrw
  obtain ⟨V7, hV⟩ : ∃ V, V = w7.alloc (Obj.cells #[.int .i64 0, .int .i64 2, .int .i64 1] 3) := ⟨_, rfl⟩
  have KJ : Blk V7 w7.heap.size 3 #[.int .i64 0, .int .i64 2, .int .i64 1] := by rw [hV]; exact Blk.made _ _ _
  have hbv : Below w7.heap.size w7 V7 := by rw [hV]; exact below_alloc1 _ _
  replace N0 := N0.later hbv
  replace N1 := N1.later hbv
  replace KA := KA.later hbv
  replace N2 := N2.later hbv
  replace KB := KB.later hbv
  replace KC := KC.later hbv
  replace KI := KI.later hbv
  replace NR := NR.later hbv
  replace hB := hB.trans (hbv.mono hB.size)
  clear hbv
  have HV := Lib.hid hV
  clear hV
  have HN0 := Lib.hid N0
  have HN1 := Lib.hid N1
  have HKA := Lib.hid KA
  have HN2 := Lib.hid N2
  have HKB := Lib.hid KB
  have HKC := Lib.hid KC
  have HKI := Lib.hid KI
  have HNR := Lib.hid NR
  have HKJ := Lib.hid KJ
  have HhB := Lib.hid hB
  clear N0 N1 KA N2 KB KC KI NR KJ hB
  go_wp2_with fail
  have N0 := HN0.out
  have N1 := HN1.out
  have KA := HKA.out
  have N2 := HN2.out
  have KB := HKB.out
  have KC := HKC.out
  have KI := HKI.out
  have NR := HNR.out
  have KJ := HKJ.out
  have hB := HhB.out
  clear HN0 HN1 HKA HN2 HKB HKC HKI HNR HKJ HhB
  rw [← HV.out]
  clear HV
  have NJ := Nums.of_blk (xs := [0, 2, 1]) (cap := 3) KJ (by rfl) (by decide) (by decide)
  refine (ints_eq _ _ 3 _ _ [0, 2, 1] rfl (by decide) _ NR NJ).mono ?_
  rintro e w8 ⟨rfl, hb⟩
  replace N0 := N0.later hb
  replace N1 := N1.later hb
  replace KA := KA.later hb
  replace N2 := N2.later hb
  replace KB := KB.later hb
  replace KC := KC.later hb
  replace KI := KI.later hb
  replace NR := NR.later hb
  replace KJ := KJ.later hb
  replace hB := hB.trans (hb.mono hB.size)
  clear hb
  have b0 : World.cell? _ ⟨w3.heap.size, 0, none⟩ = some (.slice q2 3 c2) := KB.cell 0
  have bl := KB.lt
  have HN0 := Lib.hid N0
  have HN1 := Lib.hid N1
  have HKA := Lib.hid KA
  have HN2 := Lib.hid N2
  have HKB := Lib.hid KB
  have HKC := Lib.hid KC
  have HKI := Lib.hid KI
  have HNR := Lib.hid NR
  have HKJ := Lib.hid KJ
  have HhB := Lib.hid hB
  clear N0 N1 KA N2 KB KC KI NR KJ hB
  go_wp2_with fail
  clear b0 bl
  have N0 := HN0.out
  have N1 := HN1.out
  have KA := HKA.out
  have N2 := HN2.out
  have KB := HKB.out
  have KC := HKC.out
  have KI := HKI.out
  have NR := HNR.out
  have KJ := HKJ.out
  have hB := HhB.out
  clear HN0 HN1 HKA HN2 HKB HKC HKI HNR HKJ HhB
  refine (before_at [0, 1048576, 524288] 3 rfl (by decide) _ _ 2 1 2 1 true rfl rfl (by decide) (by decide) (by decide) _ N2).mono ?_
  rintro e w9 ⟨rfl, hb⟩
  replace N0 := N0.later hb
  replace N1 := N1.later hb
  replace KA := KA.later hb
  replace N2 := N2.later hb
  replace KB := KB.later hb
  replace KC := KC.later hb
  replace KI := KI.later hb
  replace NR := NR.later hb
  replace KJ := KJ.later hb
  replace hB := hB.trans (hb.mono hB.size)
  clear hb
  have b0 : World.cell? _ ⟨w3.heap.size, 0, none⟩ = some (.slice q2 3 c2) := KB.cell 0
  have bl := KB.lt
  have HN0 := Lib.hid N0
  have HN1 := Lib.hid N1
  have HKA := Lib.hid KA
  have HN2 := Lib.hid N2
  have HKB := Lib.hid KB
  have HKC := Lib.hid KC
  have HKI := Lib.hid KI
  have HNR := Lib.hid NR
  have HKJ := Lib.hid KJ
  have HhB := Lib.hid hB
  clear N0 N1 KA N2 KB KC KI NR KJ hB
  go_wp2_with fail
  clear b0 bl
  have N0 := HN0.out
  have N1 := HN1.out
  have KA := HKA.out
  have N2 := HN2.out
  have KB := HKB.out
  have KC := HKC.out
  have KI := HKI.out
  have NR := HNR.out
  have KJ := HKJ.out
  have hB := HhB.out
  clear HN0 HN1 HKA HN2 HKB HKC HKI HNR HKJ HhB
  refine (before_at [0, 1048576, 524288] 3 rfl (by decide) _ _ 1 2 1 2 false rfl rfl (by decide) (by decide) (by decide) _ N2).mono ?_
  rintro e w10 ⟨rfl, hb⟩
  replace N0 := N0.later hb
  replace N1 := N1.later hb
  replace KA := KA.later hb
  replace N2 := N2.later hb
  replace KB := KB.later hb
  replace KC := KC.later hb
  replace KI := KI.later hb
  replace NR := NR.later hb
  replace KJ := KJ.later hb
  replace hB := hB.trans (hb.mono hB.size)
  clear hb
  have b0 : World.cell? _ ⟨w3.heap.size, 0, none⟩ = some (.slice q2 3 c2) := KB.cell 0
  have bl := KB.lt
  have HN0 := Lib.hid N0
  have HN1 := Lib.hid N1
  have HKA := Lib.hid KA
  have HN2 := Lib.hid N2
  have HKB := Lib.hid KB
  have HKC := Lib.hid KC
  have HKI := Lib.hid KI
  have HNR := Lib.hid NR
  have HKJ := Lib.hid KJ
  have HhB := Lib.hid hB
  clear N0 N1 KA N2 KB KC KI NR KJ hB
  go_wp2_with fail
  clear b0 bl
  have N0 := HN0.out
  have N1 := HN1.out
  have KA := HKA.out
  have N2 := HN2.out
  have KB := HKB.out
  have KC := HKC.out
  have KI := HKI.out
  have NR := HNR.out
  have KJ := HKJ.out
  have hB := HhB.out
  clear HN0 HN1 HKA HN2 HKB HKC HKI HNR HKJ HhB
  refine (right_at [0, 1048576, 524288] 3 rfl (by decide) true (by decide) _ _ _ N2).mono ?_
  rintro e w11 ⟨rfl, hb⟩
  replace N0 := N0.later hb
  replace N1 := N1.later hb
  replace KA := KA.later hb
  replace N2 := N2.later hb
  replace KB := KB.later hb
  replace KC := KC.later hb
  replace KI := KI.later hb
  replace NR := NR.later hb
  replace KJ := KJ.later hb
  replace hB := hB.trans (hb.mono hB.size)
  clear hb
  have b0 : World.cell? _ ⟨w3.heap.size, 0, none⟩ = some (.slice q2 3 c2) := KB.cell 0
  have bl := KB.lt
  have HN0 := Lib.hid N0
  have HN1 := Lib.hid N1
  have HKA := Lib.hid KA
  have HN2 := Lib.hid N2
  have HKB := Lib.hid KB
  have HKC := Lib.hid KC
  have HKI := Lib.hid KI
  have HNR := Lib.hid NR
  have HKJ := Lib.hid KJ
  have HhB := Lib.hid hB
  clear N0 N1 KA N2 KB KC KI NR KJ hB
  go_wp2_with fail
  clear b0 bl
  have N0 := HN0.out
  have N1 := HN1.out
  have KA := HKA.out
  have N2 := HN2.out
  have KB := HKB.out
  have KC := HKC.out
  have KI := HKI.out
  have NR := HNR.out
  have KJ := HKJ.out
  have hB := HhB.out
  clear HN0 HN1 HKA HN2 HKB HKC HKI HNR HKJ HhB
  refine (right_at [] 0 rfl (by decide) false (by decide) _ _ _ (Nums.nix _)).mono ?_
  rintro e w12 ⟨rfl, hb⟩
  replace N0 := N0.later hb
  replace N1 := N1.later hb
  replace KA := KA.later hb
  replace N2 := N2.later hb
  replace KB := KB.later hb
  replace KC := KC.later hb
  replace KI := KI.later hb
  replace NR := NR.later hb
  replace KJ := KJ.later hb
  replace hB := hB.trans (hb.mono hB.size)
  clear hb
  have HN0 := Lib.hid N0
  have HN1 := Lib.hid N1
  have HKA := Lib.hid KA
  have HN2 := Lib.hid N2
  have HKB := Lib.hid KB
  have HKC := Lib.hid KC
  have HKI := Lib.hid KI
  have HNR := Lib.hid NR
  have HKJ := Lib.hid KJ
  have HhB := Lib.hid hB
  clear N0 N1 KA N2 KB KC KI NR KJ hB
  go_wp2_with fail
  have N0 := HN0.out
  have N1 := HN1.out
  have KA := HKA.out
  have N2 := HN2.out
  have KB := HKB.out
  have KC := HKC.out
  have KI := HKI.out
  have NR := HNR.out
  have KJ := HKJ.out
  have hB := HhB.out
  clear HN0 HN1 HKA HN2 HKB HKC HKI HNR HKJ HhB
  go_ret
  exact ⟨rfl, hB⟩
end Go.Proofs.Ytpikiehipeecoaa
