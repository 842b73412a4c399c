/-
  HIST: the law HistOrder.
-/
import Derived.Test.YtedgliaablokcaaRows
import Derived.ProofKit
import Derived.Deep.QuietTactic
import Derived.BigQuiet
import Derived.LoopTactic
import Derived.Test.YtedgliaablokcaaHistI
import Derived.Test.YtedgliaablokcaaHistQ
namespace Go.Proofs.Ytedgliaablokcaa
open Go.ChangeShapes Go.WideShapes Go.ChangeAt Go.RowKit

set_option maxRecDepth 100000 in
set_option maxHeartbeats 16000000 in
theorem walkHistOrder (a : Option Addr) (cap : Nat) (l : List CallV) (p q r s : Int) (w : World) (h : Hcs w a l) (hm : l.length ≤ maxLen) (_hk : l.length ≤ cap) (_hn : a = none → cap = 0) (hp : 0 ≤ p ∧ p ≤ 255) (hq : 0 ≤ q ∧ q ≤ 255) (hr : 0 ≤ r ∧ r ≤ 255) (hs : 0 ≤ s ∧ s ≤ 255) :
    Calls Try.prog 3 #[.agg #[.slice a l.length cap, .int .u8 p, .int .u8 q, .int .u8 r, .int .u8 s]] w fun e w' => e = .returned (.bool true) ∧ Below w.heap.size w w' := by
  obtain ⟨n, hn⟩ : ∃ n, l.length = n := ⟨_, rfl⟩
  have HN := Lib.hid hn
  have HH := Lib.hid fun wx (hb : Below w.heap.size w wx) => h.later hb
  rw [hn] at hm ⊢
  unfold maxLen at hm
  clear hn h
  obtain ⟨R, hR⟩ : ∃ R, rightB l = R := ⟨_, rfl⟩
  have HR := Lib.hid fun c wx (hb : Below w.heap.size w wx) (hle : n ≤ 1000000) => rright_n l n HN.out R hR a c wx (HH.out wx hb) hle
  have HRR := Lib.hid hR
  clear hR
  go_enter Try.func3, Try.ntmps3
  go_wp2_with fail
  refine (shown_any _).mono ?_
  rintro e w1 ⟨rfl, hb1⟩
  have hB1 : Below w.heap.size w w1 := (below_alloc1 w _).trans (hb1.mono (below_alloc1 w _).size)
  by_cases hbig : 40 < n
  · have h40 : decide (40 < (n : Int)) = true := by simp; omega
    go_wp2_with fail
    go_ret
    exact ⟨rfl, hB1⟩
  have h40 : decide (40 < (n : Int)) = false := by simp; omega
  by_cases hn0 : n = 0
  · have h00 : ((n : Int) == 0) = true := by simp; omega
    go_wp2_with fail
    go_ret
    exact ⟨rfl, hB1⟩
  have h00 : ((n : Int) == 0) = false := by simp; omega
  have hnz : (n : Int) ≠ 0 := by omega
  go_wp2_with fail
  refine (HR.out _ _ hB1 (by omega)).mono ?_
  rintro e w2 ⟨rfl, hb2⟩
  have hB2 := hB1.trans (hb2.mono hB1.size)
  cases R
  · go_wp2_with fail
    go_ret
    exact ⟨rfl, hB2⟩
  clear hB1 hb1 hb2
  obtain ⟨i1, hi1⟩ : ∃ i : Nat, (i : Int) = p % (n : Int) := ⟨(p % (n : Int)).toNat, Int.toNat_of_nonneg (Int.emod_nonneg _ (by omega))⟩
  have li1 : i1 < n := by have := Int.emod_lt_of_pos p (show (0 : Int) < n by omega); omega
  have mi1 : p % (n : Int) = (i1 : Int) := hi1.symm
  have ti1 : Int.tmod p (n : Int) = (i1 : Int) := by rw [Int.tmod_eq_emod_of_nonneg hp.1]; exact mi1
  clear hi1
  obtain ⟨i2, hi2⟩ : ∃ i : Nat, (i : Int) = q % (n : Int) := ⟨(q % (n : Int)).toNat, Int.toNat_of_nonneg (Int.emod_nonneg _ (by omega))⟩
  have li2 : i2 < n := by have := Int.emod_lt_of_pos q (show (0 : Int) < n by omega); omega
  have mi2 : q % (n : Int) = (i2 : Int) := hi2.symm
  have ti2 : Int.tmod q (n : Int) = (i2 : Int) := by rw [Int.tmod_eq_emod_of_nonneg hq.1]; exact mi2
  clear hi2
  obtain ⟨i3, hi3⟩ : ∃ i : Nat, (i : Int) = r % (n : Int) := ⟨(r % (n : Int)).toNat, Int.toNat_of_nonneg (Int.emod_nonneg _ (by omega))⟩
  have li3 : i3 < n := by have := Int.emod_lt_of_pos r (show (0 : Int) < n by omega); omega
  have mi3 : r % (n : Int) = (i3 : Int) := hi3.symm
  have ti3 : Int.tmod r (n : Int) = (i3 : Int) := by rw [Int.tmod_eq_emod_of_nonneg hr.1]; exact mi3
  clear hi3
  obtain ⟨i4, hi4⟩ : ∃ i : Nat, (i : Int) = s % (n : Int) := ⟨(s % (n : Int)).toNat, Int.toNat_of_nonneg (Int.emod_nonneg _ (by omega))⟩
  have li4 : i4 < n := by have := Int.emod_lt_of_pos s (show (0 : Int) < n by omega); omega
  have mi4 : s % (n : Int) = (i4 : Int) := hi4.symm
  have ti4 : Int.tmod s (n : Int) = (i4 : Int) := by rw [Int.tmod_eq_emod_of_nonneg hs.1]; exact mi4
  clear hi4
  obtain ⟨b, off, hp, hlb, hall⟩ := (HH.out _ hB2).opened (by rw [HN.out]; omega)
  subst hp
  obtain ⟨A, hA⟩ : ∃ c, l[i1]'(by rw [HN.out]; exact li1) = c := ⟨_, rfl⟩
  have eA := hall i1 (by rw [HN.out]; exact li1)
  rw [hA] at eA
  have mA : mayC A = true := by rw [← hA]; exact right_may HRR.out (List.getElem_mem _)
  obtain ⟨ag0, ag1, ag2, ag3, ag4, ag5, ag6, ag7, ag8, ag9⟩ := eA
  obtain ⟨B, hB⟩ : ∃ c, l[i2]'(by rw [HN.out]; exact li2) = c := ⟨_, rfl⟩
  have eB := hall i2 (by rw [HN.out]; exact li2)
  rw [hB] at eB
  have mB : mayC B = true := by rw [← hB]; exact right_may HRR.out (List.getElem_mem _)
  obtain ⟨bg0, bg1, bg2, bg3, bg4, bg5, bg6, bg7, bg8, bg9⟩ := eB
  obtain ⟨C, hC⟩ : ∃ c, l[i3]'(by rw [HN.out]; exact li3) = c := ⟨_, rfl⟩
  have eC := hall i3 (by rw [HN.out]; exact li3)
  rw [hC] at eC
  have mC : mayC C = true := by rw [← hC]; exact right_may HRR.out (List.getElem_mem _)
  obtain ⟨cg0, cg1, cg2, cg3, cg4, cg5, cg6, cg7, cg8, cg9⟩ := eC
  obtain ⟨D, hD⟩ : ∃ c, l[i4]'(by rw [HN.out]; exact li4) = c := ⟨_, rfl⟩
  have eD := hall i4 (by rw [HN.out]; exact li4)
  rw [hD] at eD
  have mD : mayC D = true := by rw [← hD]; exact right_may HRR.out (List.getElem_mem _)
  obtain ⟨dg0, dg1, dg2, dg3, dg4, dg5, dg6, dg7, dg8, dg9⟩ := eD
  have HSE : Hid (A.who = B.who → A.first ≠ B.first → aheadB A B = true ∨ aheadB B A = true) := Lib.hid (by rw [← hA, ← hB]; exact ahead_seat HRR.out i1 i2 _ _)
  have MA := Lib.hid mA
  have MB := Lib.hid mB
  have lHN : Hid (n = n) := Lib.hid rfl
  clear mA mB mC mD hA hB hC hD hall
  obtain ⟨W, hW⟩ : ∃ W, W = (((w2.alloc (Obj.cells #[.int .i64 A.who, .int .i64 A.kind, .int .i64 A.obj, .int .i64 A.a, .int .i64 A.b, .int .i64 A.val, .bool A.is, .int .i64 A.first, .int .i64 A.last, .int .i64 A.point] 30)).alloc (Obj.cells #[.int .i64 B.who, .int .i64 B.kind, .int .i64 B.obj, .int .i64 B.a, .int .i64 B.b, .int .i64 B.val, .bool B.is, .int .i64 B.first, .int .i64 B.last, .int .i64 B.point] 30)).alloc (Obj.cells #[.int .i64 C.who, .int .i64 C.kind, .int .i64 C.obj, .int .i64 C.a, .int .i64 C.b, .int .i64 C.val, .bool C.is, .int .i64 C.first, .int .i64 C.last, .int .i64 C.point] 30)).alloc (Obj.cells #[.int .i64 D.who, .int .i64 D.kind, .int .i64 D.obj, .int .i64 D.a, .int .i64 D.b, .int .i64 D.val, .bool D.is, .int .i64 D.first, .int .i64 D.last, .int .i64 D.point] 30) := ⟨_, rfl⟩
  have hbW : Below w2.heap.size w2 W := by rw [hW]; exact below_alloc4 w2 _ _ _ _
  have hBW : Below w.heap.size w W := hB2.trans (hbW.mono hB2.size)
  have KA : Blk W (w2.heap.size) 30 #[.int .i64 A.who, .int .i64 A.kind, .int .i64 A.obj, .int .i64 A.a, .int .i64 A.b, .int .i64 A.val, .bool A.is, .int .i64 A.first, .int .i64 A.last, .int .i64 A.point] := by rw [hW]; exact (((Blk.made w2 _ _).alloc _).alloc _).alloc _
  have KB : Blk W (w2.heap.size + 1) 30 #[.int .i64 B.who, .int .i64 B.kind, .int .i64 B.obj, .int .i64 B.a, .int .i64 B.b, .int .i64 B.val, .bool B.is, .int .i64 B.first, .int .i64 B.last, .int .i64 B.point] := by rw [hW]; exact ((Blk.made1 w2 _ _ _).alloc _).alloc _
  have KC : Blk W (w2.heap.size + 1 + 1) 30 #[.int .i64 C.who, .int .i64 C.kind, .int .i64 C.obj, .int .i64 C.a, .int .i64 C.b, .int .i64 C.val, .bool C.is, .int .i64 C.first, .int .i64 C.last, .int .i64 C.point] := by rw [hW]; exact (Blk.made2 w2 _ _ _ _).alloc _
  have KD : Blk W (w2.heap.size + 1 + 1 + 1) 30 #[.int .i64 D.who, .int .i64 D.kind, .int .i64 D.obj, .int .i64 D.a, .int .i64 D.b, .int .i64 D.val, .bool D.is, .int .i64 D.first, .int .i64 D.last, .int .i64 D.point] := by rw [hW]; exact Blk.made3 w2 _ _ _ _ _
  have HW := Lib.hid hW
  clear hW hbW hB2
  have zA0 : W.cell? ⟨w2.heap.size, 0, none⟩ = some (.int .i64 A.who) := KA.cell 0
  have zA1 : W.cell? ⟨w2.heap.size, 1, none⟩ = some (.int .i64 A.kind) := KA.cell 1
  have zA2 : W.cell? ⟨w2.heap.size, 2, none⟩ = some (.int .i64 A.obj) := KA.cell 2
  have zA3 : W.cell? ⟨w2.heap.size, 3, none⟩ = some (.int .i64 A.a) := KA.cell 3
  have zA4 : W.cell? ⟨w2.heap.size, 4, none⟩ = some (.int .i64 A.b) := KA.cell 4
  have zA5 : W.cell? ⟨w2.heap.size, 5, none⟩ = some (.int .i64 A.val) := KA.cell 5
  have zA6 : W.cell? ⟨w2.heap.size, 6, none⟩ = some (.bool A.is) := KA.cell 6
  have zA7 : W.cell? ⟨w2.heap.size, 7, none⟩ = some (.int .i64 A.first) := KA.cell 7
  have zA8 : W.cell? ⟨w2.heap.size, 8, none⟩ = some (.int .i64 A.last) := KA.cell 8
  have zA9 : W.cell? ⟨w2.heap.size, 9, none⟩ = some (.int .i64 A.point) := KA.cell 9
  have zB0 : W.cell? ⟨w2.heap.size + 1, 0, none⟩ = some (.int .i64 B.who) := KB.cell 0
  have zB1 : W.cell? ⟨w2.heap.size + 1, 1, none⟩ = some (.int .i64 B.kind) := KB.cell 1
  have zB2 : W.cell? ⟨w2.heap.size + 1, 2, none⟩ = some (.int .i64 B.obj) := KB.cell 2
  have zB3 : W.cell? ⟨w2.heap.size + 1, 3, none⟩ = some (.int .i64 B.a) := KB.cell 3
  have zB4 : W.cell? ⟨w2.heap.size + 1, 4, none⟩ = some (.int .i64 B.b) := KB.cell 4
  have zB5 : W.cell? ⟨w2.heap.size + 1, 5, none⟩ = some (.int .i64 B.val) := KB.cell 5
  have zB6 : W.cell? ⟨w2.heap.size + 1, 6, none⟩ = some (.bool B.is) := KB.cell 6
  have zB7 : W.cell? ⟨w2.heap.size + 1, 7, none⟩ = some (.int .i64 B.first) := KB.cell 7
  have zB8 : W.cell? ⟨w2.heap.size + 1, 8, none⟩ = some (.int .i64 B.last) := KB.cell 8
  have zB9 : W.cell? ⟨w2.heap.size + 1, 9, none⟩ = some (.int .i64 B.point) := KB.cell 9
  have zC0 : W.cell? ⟨w2.heap.size + 1 + 1, 0, none⟩ = some (.int .i64 C.who) := KC.cell 0
  have zC1 : W.cell? ⟨w2.heap.size + 1 + 1, 1, none⟩ = some (.int .i64 C.kind) := KC.cell 1
  have zC2 : W.cell? ⟨w2.heap.size + 1 + 1, 2, none⟩ = some (.int .i64 C.obj) := KC.cell 2
  have zC3 : W.cell? ⟨w2.heap.size + 1 + 1, 3, none⟩ = some (.int .i64 C.a) := KC.cell 3
  have zC4 : W.cell? ⟨w2.heap.size + 1 + 1, 4, none⟩ = some (.int .i64 C.b) := KC.cell 4
  have zC5 : W.cell? ⟨w2.heap.size + 1 + 1, 5, none⟩ = some (.int .i64 C.val) := KC.cell 5
  have zC6 : W.cell? ⟨w2.heap.size + 1 + 1, 6, none⟩ = some (.bool C.is) := KC.cell 6
  have zC7 : W.cell? ⟨w2.heap.size + 1 + 1, 7, none⟩ = some (.int .i64 C.first) := KC.cell 7
  have zC8 : W.cell? ⟨w2.heap.size + 1 + 1, 8, none⟩ = some (.int .i64 C.last) := KC.cell 8
  have zC9 : W.cell? ⟨w2.heap.size + 1 + 1, 9, none⟩ = some (.int .i64 C.point) := KC.cell 9
  have zD0 : W.cell? ⟨w2.heap.size + 1 + 1 + 1, 0, none⟩ = some (.int .i64 D.who) := KD.cell 0
  have zD1 : W.cell? ⟨w2.heap.size + 1 + 1 + 1, 1, none⟩ = some (.int .i64 D.kind) := KD.cell 1
  have zD2 : W.cell? ⟨w2.heap.size + 1 + 1 + 1, 2, none⟩ = some (.int .i64 D.obj) := KD.cell 2
  have zD3 : W.cell? ⟨w2.heap.size + 1 + 1 + 1, 3, none⟩ = some (.int .i64 D.a) := KD.cell 3
  have zD4 : W.cell? ⟨w2.heap.size + 1 + 1 + 1, 4, none⟩ = some (.int .i64 D.b) := KD.cell 4
  have zD5 : W.cell? ⟨w2.heap.size + 1 + 1 + 1, 5, none⟩ = some (.int .i64 D.val) := KD.cell 5
  have zD6 : W.cell? ⟨w2.heap.size + 1 + 1 + 1, 6, none⟩ = some (.bool D.is) := KD.cell 6
  have zD7 : W.cell? ⟨w2.heap.size + 1 + 1 + 1, 7, none⟩ = some (.int .i64 D.first) := KD.cell 7
  have zD8 : W.cell? ⟨w2.heap.size + 1 + 1 + 1, 8, none⟩ = some (.int .i64 D.last) := KD.cell 8
  have zD9 : W.cell? ⟨w2.heap.size + 1 + 1 + 1, 9, none⟩ = some (.int .i64 D.point) := KD.cell 9
  have HKA := Lib.hid KA
  have HKB := Lib.hid KB
  have HKC := Lib.hid KC
  have HKD := Lib.hid KD
  clear KA KB KC KD
  obtain ⟨ab, hab⟩ : ∃ x, aheadB A B = x := ⟨_, rfl⟩
  obtain ⟨ba, hba⟩ : ∃ x, aheadB B A = x := ⟨_, rfl⟩
  have H1 := Lib.hid fun wx => ahead_v A B ab hab wx
  have H2 := Lib.hid fun wx => ahead_v B A ba hba wx
  have H3 := Lib.hid fun wx => ahead_v A A false (ahead_self MA.out) wx
  have HAB := Lib.hid hab
  have HBA := Lib.hid hba
  clear hab hba
  have dx0 := fun o o2 o3 => get_alloc (o := o3) (get_alloc (o := o2) (get_alloc (o := o) dg0))
  have dx1 := fun o o2 o3 => get_alloc (o := o3) (get_alloc (o := o2) (get_alloc (o := o) dg1))
  have dx2 := fun o o2 o3 => get_alloc (o := o3) (get_alloc (o := o2) (get_alloc (o := o) dg2))
  have dx3 := fun o o2 o3 => get_alloc (o := o3) (get_alloc (o := o2) (get_alloc (o := o) dg3))
  have dx4 := fun o o2 o3 => get_alloc (o := o3) (get_alloc (o := o2) (get_alloc (o := o) dg4))
  have dx5 := fun o o2 o3 => get_alloc (o := o3) (get_alloc (o := o2) (get_alloc (o := o) dg5))
  have dx6 := fun o o2 o3 => get_alloc (o := o3) (get_alloc (o := o2) (get_alloc (o := o) dg6))
  have dx7 := fun o o2 o3 => get_alloc (o := o3) (get_alloc (o := o2) (get_alloc (o := o) dg7))
  have dx8 := fun o o2 o3 => get_alloc (o := o3) (get_alloc (o := o2) (get_alloc (o := o) dg8))
  have dx9 := fun o o2 o3 => get_alloc (o := o3) (get_alloc (o := o2) (get_alloc (o := o) dg9))
  go_wp2_with fail
  rw [← HW.out]
  clear dx0 dx1 dx2 dx3 dx4 dx5 dx6 dx7 dx8 dx9 ag0 ag1 ag2 ag3 ag4 ag5 ag6 ag7 ag8 ag9 bg0 bg1 bg2 bg3 bg4 bg5 bg6 bg7 bg8 bg9 cg0 cg1 cg2 cg3 cg4 cg5 cg6 cg7 cg8 cg9 dg0 dg1 dg2 dg3 dg4 dg5 dg6 dg7 dg8 dg9
  refine (H1.out _).mono ?_
  rintro e w5 ⟨rfl, hb5⟩
  clear zA0 zA1 zA2 zA3 zA4 zA5 zA6 zA7 zA8 zA9 zB0 zB1 zB2 zB3 zB4 zB5 zB6 zB7 zB8 zB9 zC0 zC1 zC2 zC3 zC4 zC5 zC6 zC7 zC8 zC9 zD0 zD1 zD2 zD3 zD4 zD5 zD6 zD7 zD8 zD9
  have hB5 := hBW.trans (hb5.mono hBW.size)
  have KA := HKA.out.later hb5
  have KB := HKB.out.later hb5
  have KC := HKC.out.later hb5
  have KD := HKD.out.later hb5
  have zA0 : w5.cell? ⟨w2.heap.size, 0, none⟩ = some (.int .i64 A.who) := KA.cell 0
  have zA1 : w5.cell? ⟨w2.heap.size, 1, none⟩ = some (.int .i64 A.kind) := KA.cell 1
  have zA2 : w5.cell? ⟨w2.heap.size, 2, none⟩ = some (.int .i64 A.obj) := KA.cell 2
  have zA3 : w5.cell? ⟨w2.heap.size, 3, none⟩ = some (.int .i64 A.a) := KA.cell 3
  have zA4 : w5.cell? ⟨w2.heap.size, 4, none⟩ = some (.int .i64 A.b) := KA.cell 4
  have zA5 : w5.cell? ⟨w2.heap.size, 5, none⟩ = some (.int .i64 A.val) := KA.cell 5
  have zA6 : w5.cell? ⟨w2.heap.size, 6, none⟩ = some (.bool A.is) := KA.cell 6
  have zA7 : w5.cell? ⟨w2.heap.size, 7, none⟩ = some (.int .i64 A.first) := KA.cell 7
  have zA8 : w5.cell? ⟨w2.heap.size, 8, none⟩ = some (.int .i64 A.last) := KA.cell 8
  have zA9 : w5.cell? ⟨w2.heap.size, 9, none⟩ = some (.int .i64 A.point) := KA.cell 9
  have zB0 : w5.cell? ⟨w2.heap.size + 1, 0, none⟩ = some (.int .i64 B.who) := KB.cell 0
  have zB1 : w5.cell? ⟨w2.heap.size + 1, 1, none⟩ = some (.int .i64 B.kind) := KB.cell 1
  have zB2 : w5.cell? ⟨w2.heap.size + 1, 2, none⟩ = some (.int .i64 B.obj) := KB.cell 2
  have zB3 : w5.cell? ⟨w2.heap.size + 1, 3, none⟩ = some (.int .i64 B.a) := KB.cell 3
  have zB4 : w5.cell? ⟨w2.heap.size + 1, 4, none⟩ = some (.int .i64 B.b) := KB.cell 4
  have zB5 : w5.cell? ⟨w2.heap.size + 1, 5, none⟩ = some (.int .i64 B.val) := KB.cell 5
  have zB6 : w5.cell? ⟨w2.heap.size + 1, 6, none⟩ = some (.bool B.is) := KB.cell 6
  have zB7 : w5.cell? ⟨w2.heap.size + 1, 7, none⟩ = some (.int .i64 B.first) := KB.cell 7
  have zB8 : w5.cell? ⟨w2.heap.size + 1, 8, none⟩ = some (.int .i64 B.last) := KB.cell 8
  have zB9 : w5.cell? ⟨w2.heap.size + 1, 9, none⟩ = some (.int .i64 B.point) := KB.cell 9
  have zC0 : w5.cell? ⟨w2.heap.size + 1 + 1, 0, none⟩ = some (.int .i64 C.who) := KC.cell 0
  have zC1 : w5.cell? ⟨w2.heap.size + 1 + 1, 1, none⟩ = some (.int .i64 C.kind) := KC.cell 1
  have zC2 : w5.cell? ⟨w2.heap.size + 1 + 1, 2, none⟩ = some (.int .i64 C.obj) := KC.cell 2
  have zC3 : w5.cell? ⟨w2.heap.size + 1 + 1, 3, none⟩ = some (.int .i64 C.a) := KC.cell 3
  have zC4 : w5.cell? ⟨w2.heap.size + 1 + 1, 4, none⟩ = some (.int .i64 C.b) := KC.cell 4
  have zC5 : w5.cell? ⟨w2.heap.size + 1 + 1, 5, none⟩ = some (.int .i64 C.val) := KC.cell 5
  have zC6 : w5.cell? ⟨w2.heap.size + 1 + 1, 6, none⟩ = some (.bool C.is) := KC.cell 6
  have zC7 : w5.cell? ⟨w2.heap.size + 1 + 1, 7, none⟩ = some (.int .i64 C.first) := KC.cell 7
  have zC8 : w5.cell? ⟨w2.heap.size + 1 + 1, 8, none⟩ = some (.int .i64 C.last) := KC.cell 8
  have zC9 : w5.cell? ⟨w2.heap.size + 1 + 1, 9, none⟩ = some (.int .i64 C.point) := KC.cell 9
  have zD0 : w5.cell? ⟨w2.heap.size + 1 + 1 + 1, 0, none⟩ = some (.int .i64 D.who) := KD.cell 0
  have zD1 : w5.cell? ⟨w2.heap.size + 1 + 1 + 1, 1, none⟩ = some (.int .i64 D.kind) := KD.cell 1
  have zD2 : w5.cell? ⟨w2.heap.size + 1 + 1 + 1, 2, none⟩ = some (.int .i64 D.obj) := KD.cell 2
  have zD3 : w5.cell? ⟨w2.heap.size + 1 + 1 + 1, 3, none⟩ = some (.int .i64 D.a) := KD.cell 3
  have zD4 : w5.cell? ⟨w2.heap.size + 1 + 1 + 1, 4, none⟩ = some (.int .i64 D.b) := KD.cell 4
  have zD5 : w5.cell? ⟨w2.heap.size + 1 + 1 + 1, 5, none⟩ = some (.int .i64 D.val) := KD.cell 5
  have zD6 : w5.cell? ⟨w2.heap.size + 1 + 1 + 1, 6, none⟩ = some (.bool D.is) := KD.cell 6
  have zD7 : w5.cell? ⟨w2.heap.size + 1 + 1 + 1, 7, none⟩ = some (.int .i64 D.first) := KD.cell 7
  have zD8 : w5.cell? ⟨w2.heap.size + 1 + 1 + 1, 8, none⟩ = some (.int .i64 D.last) := KD.cell 8
  have zD9 : w5.cell? ⟨w2.heap.size + 1 + 1 + 1, 9, none⟩ = some (.int .i64 D.point) := KD.cell 9
  go_wp2_with fail
  refine (H2.out _).mono ?_
  rintro e w6 ⟨rfl, hb6⟩
  clear zA0 zA1 zA2 zA3 zA4 zA5 zA6 zA7 zA8 zA9 zB0 zB1 zB2 zB3 zB4 zB5 zB6 zB7 zB8 zB9 zC0 zC1 zC2 zC3 zC4 zC5 zC6 zC7 zC8 zC9 zD0 zD1 zD2 zD3 zD4 zD5 zD6 zD7 zD8 zD9
  have hB6 := hB5.trans (hb6.mono hB5.size)
  have KA := KA.later hb6
  have KB := KB.later hb6
  have KC := KC.later hb6
  have KD := KD.later hb6
  have zA0 : w6.cell? ⟨w2.heap.size, 0, none⟩ = some (.int .i64 A.who) := KA.cell 0
  have zA1 : w6.cell? ⟨w2.heap.size, 1, none⟩ = some (.int .i64 A.kind) := KA.cell 1
  have zA2 : w6.cell? ⟨w2.heap.size, 2, none⟩ = some (.int .i64 A.obj) := KA.cell 2
  have zA3 : w6.cell? ⟨w2.heap.size, 3, none⟩ = some (.int .i64 A.a) := KA.cell 3
  have zA4 : w6.cell? ⟨w2.heap.size, 4, none⟩ = some (.int .i64 A.b) := KA.cell 4
  have zA5 : w6.cell? ⟨w2.heap.size, 5, none⟩ = some (.int .i64 A.val) := KA.cell 5
  have zA6 : w6.cell? ⟨w2.heap.size, 6, none⟩ = some (.bool A.is) := KA.cell 6
  have zA7 : w6.cell? ⟨w2.heap.size, 7, none⟩ = some (.int .i64 A.first) := KA.cell 7
  have zA8 : w6.cell? ⟨w2.heap.size, 8, none⟩ = some (.int .i64 A.last) := KA.cell 8
  have zA9 : w6.cell? ⟨w2.heap.size, 9, none⟩ = some (.int .i64 A.point) := KA.cell 9
  have zB0 : w6.cell? ⟨w2.heap.size + 1, 0, none⟩ = some (.int .i64 B.who) := KB.cell 0
  have zB1 : w6.cell? ⟨w2.heap.size + 1, 1, none⟩ = some (.int .i64 B.kind) := KB.cell 1
  have zB2 : w6.cell? ⟨w2.heap.size + 1, 2, none⟩ = some (.int .i64 B.obj) := KB.cell 2
  have zB3 : w6.cell? ⟨w2.heap.size + 1, 3, none⟩ = some (.int .i64 B.a) := KB.cell 3
  have zB4 : w6.cell? ⟨w2.heap.size + 1, 4, none⟩ = some (.int .i64 B.b) := KB.cell 4
  have zB5 : w6.cell? ⟨w2.heap.size + 1, 5, none⟩ = some (.int .i64 B.val) := KB.cell 5
  have zB6 : w6.cell? ⟨w2.heap.size + 1, 6, none⟩ = some (.bool B.is) := KB.cell 6
  have zB7 : w6.cell? ⟨w2.heap.size + 1, 7, none⟩ = some (.int .i64 B.first) := KB.cell 7
  have zB8 : w6.cell? ⟨w2.heap.size + 1, 8, none⟩ = some (.int .i64 B.last) := KB.cell 8
  have zB9 : w6.cell? ⟨w2.heap.size + 1, 9, none⟩ = some (.int .i64 B.point) := KB.cell 9
  have zC0 : w6.cell? ⟨w2.heap.size + 1 + 1, 0, none⟩ = some (.int .i64 C.who) := KC.cell 0
  have zC1 : w6.cell? ⟨w2.heap.size + 1 + 1, 1, none⟩ = some (.int .i64 C.kind) := KC.cell 1
  have zC2 : w6.cell? ⟨w2.heap.size + 1 + 1, 2, none⟩ = some (.int .i64 C.obj) := KC.cell 2
  have zC3 : w6.cell? ⟨w2.heap.size + 1 + 1, 3, none⟩ = some (.int .i64 C.a) := KC.cell 3
  have zC4 : w6.cell? ⟨w2.heap.size + 1 + 1, 4, none⟩ = some (.int .i64 C.b) := KC.cell 4
  have zC5 : w6.cell? ⟨w2.heap.size + 1 + 1, 5, none⟩ = some (.int .i64 C.val) := KC.cell 5
  have zC6 : w6.cell? ⟨w2.heap.size + 1 + 1, 6, none⟩ = some (.bool C.is) := KC.cell 6
  have zC7 : w6.cell? ⟨w2.heap.size + 1 + 1, 7, none⟩ = some (.int .i64 C.first) := KC.cell 7
  have zC8 : w6.cell? ⟨w2.heap.size + 1 + 1, 8, none⟩ = some (.int .i64 C.last) := KC.cell 8
  have zC9 : w6.cell? ⟨w2.heap.size + 1 + 1, 9, none⟩ = some (.int .i64 C.point) := KC.cell 9
  have zD0 : w6.cell? ⟨w2.heap.size + 1 + 1 + 1, 0, none⟩ = some (.int .i64 D.who) := KD.cell 0
  have zD1 : w6.cell? ⟨w2.heap.size + 1 + 1 + 1, 1, none⟩ = some (.int .i64 D.kind) := KD.cell 1
  have zD2 : w6.cell? ⟨w2.heap.size + 1 + 1 + 1, 2, none⟩ = some (.int .i64 D.obj) := KD.cell 2
  have zD3 : w6.cell? ⟨w2.heap.size + 1 + 1 + 1, 3, none⟩ = some (.int .i64 D.a) := KD.cell 3
  have zD4 : w6.cell? ⟨w2.heap.size + 1 + 1 + 1, 4, none⟩ = some (.int .i64 D.b) := KD.cell 4
  have zD5 : w6.cell? ⟨w2.heap.size + 1 + 1 + 1, 5, none⟩ = some (.int .i64 D.val) := KD.cell 5
  have zD6 : w6.cell? ⟨w2.heap.size + 1 + 1 + 1, 6, none⟩ = some (.bool D.is) := KD.cell 6
  have zD7 : w6.cell? ⟨w2.heap.size + 1 + 1 + 1, 7, none⟩ = some (.int .i64 D.first) := KD.cell 7
  have zD8 : w6.cell? ⟨w2.heap.size + 1 + 1 + 1, 8, none⟩ = some (.int .i64 D.last) := KD.cell 8
  have zD9 : w6.cell? ⟨w2.heap.size + 1 + 1 + 1, 9, none⟩ = some (.int .i64 D.point) := KD.cell 9
  cases hq : ab
  · have HAB2 : Hid (aheadB A B = false) := Lib.hid (by rw [HAB.out, hq])
    subst hq
    cases hq : ba
    · have hsame : A.who = B.who → A.first = B.first := fun h1 => Classical.byContradiction fun h2 => by
        rcases HSE.out h1 h2 with h | h
        · rw [HAB2.out] at h; cases h
        · rw [HBA.out, hq] at h; cases h
      subst hq
      go_wp2_with fail
      refine (H3.out _).mono ?_
      rintro e w7 ⟨rfl, hb7⟩
      clear zA0 zA1 zA2 zA3 zA4 zA5 zA6 zA7 zA8 zA9 zB0 zB1 zB2 zB3 zB4 zB5 zB6 zB7 zB8 zB9 zC0 zC1 zC2 zC3 zC4 zC5 zC6 zC7 zC8 zC9 zD0 zD1 zD2 zD3 zD4 zD5 zD6 zD7 zD8 zD9
      have hB7 := hB6.trans (hb7.mono hB6.size)
      have KA := KA.later hb7
      have KB := KB.later hb7
      have KC := KC.later hb7
      have KD := KD.later hb7
      have zA0 : w7.cell? ⟨w2.heap.size, 0, none⟩ = some (.int .i64 A.who) := KA.cell 0
      have zA1 : w7.cell? ⟨w2.heap.size, 1, none⟩ = some (.int .i64 A.kind) := KA.cell 1
      have zA2 : w7.cell? ⟨w2.heap.size, 2, none⟩ = some (.int .i64 A.obj) := KA.cell 2
      have zA3 : w7.cell? ⟨w2.heap.size, 3, none⟩ = some (.int .i64 A.a) := KA.cell 3
      have zA4 : w7.cell? ⟨w2.heap.size, 4, none⟩ = some (.int .i64 A.b) := KA.cell 4
      have zA5 : w7.cell? ⟨w2.heap.size, 5, none⟩ = some (.int .i64 A.val) := KA.cell 5
      have zA6 : w7.cell? ⟨w2.heap.size, 6, none⟩ = some (.bool A.is) := KA.cell 6
      have zA7 : w7.cell? ⟨w2.heap.size, 7, none⟩ = some (.int .i64 A.first) := KA.cell 7
      have zA8 : w7.cell? ⟨w2.heap.size, 8, none⟩ = some (.int .i64 A.last) := KA.cell 8
      have zA9 : w7.cell? ⟨w2.heap.size, 9, none⟩ = some (.int .i64 A.point) := KA.cell 9
      have zB0 : w7.cell? ⟨w2.heap.size + 1, 0, none⟩ = some (.int .i64 B.who) := KB.cell 0
      have zB1 : w7.cell? ⟨w2.heap.size + 1, 1, none⟩ = some (.int .i64 B.kind) := KB.cell 1
      have zB2 : w7.cell? ⟨w2.heap.size + 1, 2, none⟩ = some (.int .i64 B.obj) := KB.cell 2
      have zB3 : w7.cell? ⟨w2.heap.size + 1, 3, none⟩ = some (.int .i64 B.a) := KB.cell 3
      have zB4 : w7.cell? ⟨w2.heap.size + 1, 4, none⟩ = some (.int .i64 B.b) := KB.cell 4
      have zB5 : w7.cell? ⟨w2.heap.size + 1, 5, none⟩ = some (.int .i64 B.val) := KB.cell 5
      have zB6 : w7.cell? ⟨w2.heap.size + 1, 6, none⟩ = some (.bool B.is) := KB.cell 6
      have zB7 : w7.cell? ⟨w2.heap.size + 1, 7, none⟩ = some (.int .i64 B.first) := KB.cell 7
      have zB8 : w7.cell? ⟨w2.heap.size + 1, 8, none⟩ = some (.int .i64 B.last) := KB.cell 8
      have zB9 : w7.cell? ⟨w2.heap.size + 1, 9, none⟩ = some (.int .i64 B.point) := KB.cell 9
      have zC0 : w7.cell? ⟨w2.heap.size + 1 + 1, 0, none⟩ = some (.int .i64 C.who) := KC.cell 0
      have zC1 : w7.cell? ⟨w2.heap.size + 1 + 1, 1, none⟩ = some (.int .i64 C.kind) := KC.cell 1
      have zC2 : w7.cell? ⟨w2.heap.size + 1 + 1, 2, none⟩ = some (.int .i64 C.obj) := KC.cell 2
      have zC3 : w7.cell? ⟨w2.heap.size + 1 + 1, 3, none⟩ = some (.int .i64 C.a) := KC.cell 3
      have zC4 : w7.cell? ⟨w2.heap.size + 1 + 1, 4, none⟩ = some (.int .i64 C.b) := KC.cell 4
      have zC5 : w7.cell? ⟨w2.heap.size + 1 + 1, 5, none⟩ = some (.int .i64 C.val) := KC.cell 5
      have zC6 : w7.cell? ⟨w2.heap.size + 1 + 1, 6, none⟩ = some (.bool C.is) := KC.cell 6
      have zC7 : w7.cell? ⟨w2.heap.size + 1 + 1, 7, none⟩ = some (.int .i64 C.first) := KC.cell 7
      have zC8 : w7.cell? ⟨w2.heap.size + 1 + 1, 8, none⟩ = some (.int .i64 C.last) := KC.cell 8
      have zC9 : w7.cell? ⟨w2.heap.size + 1 + 1, 9, none⟩ = some (.int .i64 C.point) := KC.cell 9
      have zD0 : w7.cell? ⟨w2.heap.size + 1 + 1 + 1, 0, none⟩ = some (.int .i64 D.who) := KD.cell 0
      have zD1 : w7.cell? ⟨w2.heap.size + 1 + 1 + 1, 1, none⟩ = some (.int .i64 D.kind) := KD.cell 1
      have zD2 : w7.cell? ⟨w2.heap.size + 1 + 1 + 1, 2, none⟩ = some (.int .i64 D.obj) := KD.cell 2
      have zD3 : w7.cell? ⟨w2.heap.size + 1 + 1 + 1, 3, none⟩ = some (.int .i64 D.a) := KD.cell 3
      have zD4 : w7.cell? ⟨w2.heap.size + 1 + 1 + 1, 4, none⟩ = some (.int .i64 D.b) := KD.cell 4
      have zD5 : w7.cell? ⟨w2.heap.size + 1 + 1 + 1, 5, none⟩ = some (.int .i64 D.val) := KD.cell 5
      have zD6 : w7.cell? ⟨w2.heap.size + 1 + 1 + 1, 6, none⟩ = some (.bool D.is) := KD.cell 6
      have zD7 : w7.cell? ⟨w2.heap.size + 1 + 1 + 1, 7, none⟩ = some (.int .i64 D.first) := KD.cell 7
      have zD8 : w7.cell? ⟨w2.heap.size + 1 + 1 + 1, 8, none⟩ = some (.int .i64 D.last) := KD.cell 8
      have zD9 : w7.cell? ⟨w2.heap.size + 1 + 1 + 1, 9, none⟩ = some (.int .i64 D.point) := KD.cell 9
      by_cases hwho : A.who = B.who
      · have hfi := hsame hwho
        have e1 : (A.who == B.who) = true := by simp; exact hwho
        have e2 : (A.first != B.first) = false := by simp; exact hfi
        have e3 : (A.first == B.first) = true := by simp; exact hfi
        clear hsame hwho hfi
        go_wp2_with fail
        go_ret
        exact ⟨rfl, hB7⟩
      · have e1 : (A.who == B.who) = false := by simp; exact hwho
        clear hsame hwho
        go_wp2_with fail
        go_ret
        exact ⟨rfl, hB7⟩
    · subst hq
      go_wp2_with fail
      refine (H3.out _).mono ?_
      rintro e w7 ⟨rfl, hb7⟩
      clear zA0 zA1 zA2 zA3 zA4 zA5 zA6 zA7 zA8 zA9 zB0 zB1 zB2 zB3 zB4 zB5 zB6 zB7 zB8 zB9 zC0 zC1 zC2 zC3 zC4 zC5 zC6 zC7 zC8 zC9 zD0 zD1 zD2 zD3 zD4 zD5 zD6 zD7 zD8 zD9
      have hB7 := hB6.trans (hb7.mono hB6.size)
      have KA := KA.later hb7
      have KB := KB.later hb7
      have KC := KC.later hb7
      have KD := KD.later hb7
      have zA0 : w7.cell? ⟨w2.heap.size, 0, none⟩ = some (.int .i64 A.who) := KA.cell 0
      have zA1 : w7.cell? ⟨w2.heap.size, 1, none⟩ = some (.int .i64 A.kind) := KA.cell 1
      have zA2 : w7.cell? ⟨w2.heap.size, 2, none⟩ = some (.int .i64 A.obj) := KA.cell 2
      have zA3 : w7.cell? ⟨w2.heap.size, 3, none⟩ = some (.int .i64 A.a) := KA.cell 3
      have zA4 : w7.cell? ⟨w2.heap.size, 4, none⟩ = some (.int .i64 A.b) := KA.cell 4
      have zA5 : w7.cell? ⟨w2.heap.size, 5, none⟩ = some (.int .i64 A.val) := KA.cell 5
      have zA6 : w7.cell? ⟨w2.heap.size, 6, none⟩ = some (.bool A.is) := KA.cell 6
      have zA7 : w7.cell? ⟨w2.heap.size, 7, none⟩ = some (.int .i64 A.first) := KA.cell 7
      have zA8 : w7.cell? ⟨w2.heap.size, 8, none⟩ = some (.int .i64 A.last) := KA.cell 8
      have zA9 : w7.cell? ⟨w2.heap.size, 9, none⟩ = some (.int .i64 A.point) := KA.cell 9
      have zB0 : w7.cell? ⟨w2.heap.size + 1, 0, none⟩ = some (.int .i64 B.who) := KB.cell 0
      have zB1 : w7.cell? ⟨w2.heap.size + 1, 1, none⟩ = some (.int .i64 B.kind) := KB.cell 1
      have zB2 : w7.cell? ⟨w2.heap.size + 1, 2, none⟩ = some (.int .i64 B.obj) := KB.cell 2
      have zB3 : w7.cell? ⟨w2.heap.size + 1, 3, none⟩ = some (.int .i64 B.a) := KB.cell 3
      have zB4 : w7.cell? ⟨w2.heap.size + 1, 4, none⟩ = some (.int .i64 B.b) := KB.cell 4
      have zB5 : w7.cell? ⟨w2.heap.size + 1, 5, none⟩ = some (.int .i64 B.val) := KB.cell 5
      have zB6 : w7.cell? ⟨w2.heap.size + 1, 6, none⟩ = some (.bool B.is) := KB.cell 6
      have zB7 : w7.cell? ⟨w2.heap.size + 1, 7, none⟩ = some (.int .i64 B.first) := KB.cell 7
      have zB8 : w7.cell? ⟨w2.heap.size + 1, 8, none⟩ = some (.int .i64 B.last) := KB.cell 8
      have zB9 : w7.cell? ⟨w2.heap.size + 1, 9, none⟩ = some (.int .i64 B.point) := KB.cell 9
      have zC0 : w7.cell? ⟨w2.heap.size + 1 + 1, 0, none⟩ = some (.int .i64 C.who) := KC.cell 0
      have zC1 : w7.cell? ⟨w2.heap.size + 1 + 1, 1, none⟩ = some (.int .i64 C.kind) := KC.cell 1
      have zC2 : w7.cell? ⟨w2.heap.size + 1 + 1, 2, none⟩ = some (.int .i64 C.obj) := KC.cell 2
      have zC3 : w7.cell? ⟨w2.heap.size + 1 + 1, 3, none⟩ = some (.int .i64 C.a) := KC.cell 3
      have zC4 : w7.cell? ⟨w2.heap.size + 1 + 1, 4, none⟩ = some (.int .i64 C.b) := KC.cell 4
      have zC5 : w7.cell? ⟨w2.heap.size + 1 + 1, 5, none⟩ = some (.int .i64 C.val) := KC.cell 5
      have zC6 : w7.cell? ⟨w2.heap.size + 1 + 1, 6, none⟩ = some (.bool C.is) := KC.cell 6
      have zC7 : w7.cell? ⟨w2.heap.size + 1 + 1, 7, none⟩ = some (.int .i64 C.first) := KC.cell 7
      have zC8 : w7.cell? ⟨w2.heap.size + 1 + 1, 8, none⟩ = some (.int .i64 C.last) := KC.cell 8
      have zC9 : w7.cell? ⟨w2.heap.size + 1 + 1, 9, none⟩ = some (.int .i64 C.point) := KC.cell 9
      have zD0 : w7.cell? ⟨w2.heap.size + 1 + 1 + 1, 0, none⟩ = some (.int .i64 D.who) := KD.cell 0
      have zD1 : w7.cell? ⟨w2.heap.size + 1 + 1 + 1, 1, none⟩ = some (.int .i64 D.kind) := KD.cell 1
      have zD2 : w7.cell? ⟨w2.heap.size + 1 + 1 + 1, 2, none⟩ = some (.int .i64 D.obj) := KD.cell 2
      have zD3 : w7.cell? ⟨w2.heap.size + 1 + 1 + 1, 3, none⟩ = some (.int .i64 D.a) := KD.cell 3
      have zD4 : w7.cell? ⟨w2.heap.size + 1 + 1 + 1, 4, none⟩ = some (.int .i64 D.b) := KD.cell 4
      have zD5 : w7.cell? ⟨w2.heap.size + 1 + 1 + 1, 5, none⟩ = some (.int .i64 D.val) := KD.cell 5
      have zD6 : w7.cell? ⟨w2.heap.size + 1 + 1 + 1, 6, none⟩ = some (.bool D.is) := KD.cell 6
      have zD7 : w7.cell? ⟨w2.heap.size + 1 + 1 + 1, 7, none⟩ = some (.int .i64 D.first) := KD.cell 7
      have zD8 : w7.cell? ⟨w2.heap.size + 1 + 1 + 1, 8, none⟩ = some (.int .i64 D.last) := KD.cell 8
      have zD9 : w7.cell? ⟨w2.heap.size + 1 + 1 + 1, 9, none⟩ = some (.int .i64 D.point) := KD.cell 9
      go_wp2_with fail
      all_goals
        go_ret
        exact ⟨rfl, hB7⟩
  · have HAB2 : Hid (aheadB A B = true) := Lib.hid (by rw [HAB.out, hq])
    have hbf : ba = false := by
      cases hq2 : ba
      · rfl
      · exact absurd (ahead_both MA.out MB.out HAB2.out (by rw [HBA.out, hq2])) id
    subst hq
    subst hbf
    obtain ⟨bc, hbc⟩ : ∃ x, aheadB B C = x := ⟨_, rfl⟩
    obtain ⟨cd, hcd⟩ : ∃ x, aheadB C D = x := ⟨_, rfl⟩
    obtain ⟨ad, had⟩ : ∃ x, aheadB A D = x := ⟨_, rfl⟩
    have H4 := Lib.hid fun wx => ahead_v B C bc hbc wx
    have H6 := Lib.hid fun wx => ahead_v C D cd hcd wx
    have H7 := Lib.hid fun wx => ahead_v A D ad had wx
    have HBC := Lib.hid hbc
    have HCD := Lib.hid hcd
    have HAD := Lib.hid had
    clear hbc hcd had
    go_wp2_with fail
    refine (H3.out _).mono ?_
    rintro e w7 ⟨rfl, hb7⟩
    clear zA0 zA1 zA2 zA3 zA4 zA5 zA6 zA7 zA8 zA9 zB0 zB1 zB2 zB3 zB4 zB5 zB6 zB7 zB8 zB9 zC0 zC1 zC2 zC3 zC4 zC5 zC6 zC7 zC8 zC9 zD0 zD1 zD2 zD3 zD4 zD5 zD6 zD7 zD8 zD9
    have hB7 := hB6.trans (hb7.mono hB6.size)
    have KA := KA.later hb7
    have KB := KB.later hb7
    have KC := KC.later hb7
    have KD := KD.later hb7
    have zA0 : w7.cell? ⟨w2.heap.size, 0, none⟩ = some (.int .i64 A.who) := KA.cell 0
    have zA1 : w7.cell? ⟨w2.heap.size, 1, none⟩ = some (.int .i64 A.kind) := KA.cell 1
    have zA2 : w7.cell? ⟨w2.heap.size, 2, none⟩ = some (.int .i64 A.obj) := KA.cell 2
    have zA3 : w7.cell? ⟨w2.heap.size, 3, none⟩ = some (.int .i64 A.a) := KA.cell 3
    have zA4 : w7.cell? ⟨w2.heap.size, 4, none⟩ = some (.int .i64 A.b) := KA.cell 4
    have zA5 : w7.cell? ⟨w2.heap.size, 5, none⟩ = some (.int .i64 A.val) := KA.cell 5
    have zA6 : w7.cell? ⟨w2.heap.size, 6, none⟩ = some (.bool A.is) := KA.cell 6
    have zA7 : w7.cell? ⟨w2.heap.size, 7, none⟩ = some (.int .i64 A.first) := KA.cell 7
    have zA8 : w7.cell? ⟨w2.heap.size, 8, none⟩ = some (.int .i64 A.last) := KA.cell 8
    have zA9 : w7.cell? ⟨w2.heap.size, 9, none⟩ = some (.int .i64 A.point) := KA.cell 9
    have zB0 : w7.cell? ⟨w2.heap.size + 1, 0, none⟩ = some (.int .i64 B.who) := KB.cell 0
    have zB1 : w7.cell? ⟨w2.heap.size + 1, 1, none⟩ = some (.int .i64 B.kind) := KB.cell 1
    have zB2 : w7.cell? ⟨w2.heap.size + 1, 2, none⟩ = some (.int .i64 B.obj) := KB.cell 2
    have zB3 : w7.cell? ⟨w2.heap.size + 1, 3, none⟩ = some (.int .i64 B.a) := KB.cell 3
    have zB4 : w7.cell? ⟨w2.heap.size + 1, 4, none⟩ = some (.int .i64 B.b) := KB.cell 4
    have zB5 : w7.cell? ⟨w2.heap.size + 1, 5, none⟩ = some (.int .i64 B.val) := KB.cell 5
    have zB6 : w7.cell? ⟨w2.heap.size + 1, 6, none⟩ = some (.bool B.is) := KB.cell 6
    have zB7 : w7.cell? ⟨w2.heap.size + 1, 7, none⟩ = some (.int .i64 B.first) := KB.cell 7
    have zB8 : w7.cell? ⟨w2.heap.size + 1, 8, none⟩ = some (.int .i64 B.last) := KB.cell 8
    have zB9 : w7.cell? ⟨w2.heap.size + 1, 9, none⟩ = some (.int .i64 B.point) := KB.cell 9
    have zC0 : w7.cell? ⟨w2.heap.size + 1 + 1, 0, none⟩ = some (.int .i64 C.who) := KC.cell 0
    have zC1 : w7.cell? ⟨w2.heap.size + 1 + 1, 1, none⟩ = some (.int .i64 C.kind) := KC.cell 1
    have zC2 : w7.cell? ⟨w2.heap.size + 1 + 1, 2, none⟩ = some (.int .i64 C.obj) := KC.cell 2
    have zC3 : w7.cell? ⟨w2.heap.size + 1 + 1, 3, none⟩ = some (.int .i64 C.a) := KC.cell 3
    have zC4 : w7.cell? ⟨w2.heap.size + 1 + 1, 4, none⟩ = some (.int .i64 C.b) := KC.cell 4
    have zC5 : w7.cell? ⟨w2.heap.size + 1 + 1, 5, none⟩ = some (.int .i64 C.val) := KC.cell 5
    have zC6 : w7.cell? ⟨w2.heap.size + 1 + 1, 6, none⟩ = some (.bool C.is) := KC.cell 6
    have zC7 : w7.cell? ⟨w2.heap.size + 1 + 1, 7, none⟩ = some (.int .i64 C.first) := KC.cell 7
    have zC8 : w7.cell? ⟨w2.heap.size + 1 + 1, 8, none⟩ = some (.int .i64 C.last) := KC.cell 8
    have zC9 : w7.cell? ⟨w2.heap.size + 1 + 1, 9, none⟩ = some (.int .i64 C.point) := KC.cell 9
    have zD0 : w7.cell? ⟨w2.heap.size + 1 + 1 + 1, 0, none⟩ = some (.int .i64 D.who) := KD.cell 0
    have zD1 : w7.cell? ⟨w2.heap.size + 1 + 1 + 1, 1, none⟩ = some (.int .i64 D.kind) := KD.cell 1
    have zD2 : w7.cell? ⟨w2.heap.size + 1 + 1 + 1, 2, none⟩ = some (.int .i64 D.obj) := KD.cell 2
    have zD3 : w7.cell? ⟨w2.heap.size + 1 + 1 + 1, 3, none⟩ = some (.int .i64 D.a) := KD.cell 3
    have zD4 : w7.cell? ⟨w2.heap.size + 1 + 1 + 1, 4, none⟩ = some (.int .i64 D.b) := KD.cell 4
    have zD5 : w7.cell? ⟨w2.heap.size + 1 + 1 + 1, 5, none⟩ = some (.int .i64 D.val) := KD.cell 5
    have zD6 : w7.cell? ⟨w2.heap.size + 1 + 1 + 1, 6, none⟩ = some (.bool D.is) := KD.cell 6
    have zD7 : w7.cell? ⟨w2.heap.size + 1 + 1 + 1, 7, none⟩ = some (.int .i64 D.first) := KD.cell 7
    have zD8 : w7.cell? ⟨w2.heap.size + 1 + 1 + 1, 8, none⟩ = some (.int .i64 D.last) := KD.cell 8
    have zD9 : w7.cell? ⟨w2.heap.size + 1 + 1 + 1, 9, none⟩ = some (.int .i64 D.point) := KD.cell 9
    go_wp2_with fail
    refine (H4.out _).mono ?_
    rintro e w8 ⟨rfl, hb8⟩
    clear zA0 zA1 zA2 zA3 zA4 zA5 zA6 zA7 zA8 zA9 zB0 zB1 zB2 zB3 zB4 zB5 zB6 zB7 zB8 zB9 zC0 zC1 zC2 zC3 zC4 zC5 zC6 zC7 zC8 zC9 zD0 zD1 zD2 zD3 zD4 zD5 zD6 zD7 zD8 zD9
    have hB8 := hB7.trans (hb8.mono hB7.size)
    have KA := KA.later hb8
    have KB := KB.later hb8
    have KC := KC.later hb8
    have KD := KD.later hb8
    have zA0 : w8.cell? ⟨w2.heap.size, 0, none⟩ = some (.int .i64 A.who) := KA.cell 0
    have zA1 : w8.cell? ⟨w2.heap.size, 1, none⟩ = some (.int .i64 A.kind) := KA.cell 1
    have zA2 : w8.cell? ⟨w2.heap.size, 2, none⟩ = some (.int .i64 A.obj) := KA.cell 2
    have zA3 : w8.cell? ⟨w2.heap.size, 3, none⟩ = some (.int .i64 A.a) := KA.cell 3
    have zA4 : w8.cell? ⟨w2.heap.size, 4, none⟩ = some (.int .i64 A.b) := KA.cell 4
    have zA5 : w8.cell? ⟨w2.heap.size, 5, none⟩ = some (.int .i64 A.val) := KA.cell 5
    have zA6 : w8.cell? ⟨w2.heap.size, 6, none⟩ = some (.bool A.is) := KA.cell 6
    have zA7 : w8.cell? ⟨w2.heap.size, 7, none⟩ = some (.int .i64 A.first) := KA.cell 7
    have zA8 : w8.cell? ⟨w2.heap.size, 8, none⟩ = some (.int .i64 A.last) := KA.cell 8
    have zA9 : w8.cell? ⟨w2.heap.size, 9, none⟩ = some (.int .i64 A.point) := KA.cell 9
    have zB0 : w8.cell? ⟨w2.heap.size + 1, 0, none⟩ = some (.int .i64 B.who) := KB.cell 0
    have zB1 : w8.cell? ⟨w2.heap.size + 1, 1, none⟩ = some (.int .i64 B.kind) := KB.cell 1
    have zB2 : w8.cell? ⟨w2.heap.size + 1, 2, none⟩ = some (.int .i64 B.obj) := KB.cell 2
    have zB3 : w8.cell? ⟨w2.heap.size + 1, 3, none⟩ = some (.int .i64 B.a) := KB.cell 3
    have zB4 : w8.cell? ⟨w2.heap.size + 1, 4, none⟩ = some (.int .i64 B.b) := KB.cell 4
    have zB5 : w8.cell? ⟨w2.heap.size + 1, 5, none⟩ = some (.int .i64 B.val) := KB.cell 5
    have zB6 : w8.cell? ⟨w2.heap.size + 1, 6, none⟩ = some (.bool B.is) := KB.cell 6
    have zB7 : w8.cell? ⟨w2.heap.size + 1, 7, none⟩ = some (.int .i64 B.first) := KB.cell 7
    have zB8 : w8.cell? ⟨w2.heap.size + 1, 8, none⟩ = some (.int .i64 B.last) := KB.cell 8
    have zB9 : w8.cell? ⟨w2.heap.size + 1, 9, none⟩ = some (.int .i64 B.point) := KB.cell 9
    have zC0 : w8.cell? ⟨w2.heap.size + 1 + 1, 0, none⟩ = some (.int .i64 C.who) := KC.cell 0
    have zC1 : w8.cell? ⟨w2.heap.size + 1 + 1, 1, none⟩ = some (.int .i64 C.kind) := KC.cell 1
    have zC2 : w8.cell? ⟨w2.heap.size + 1 + 1, 2, none⟩ = some (.int .i64 C.obj) := KC.cell 2
    have zC3 : w8.cell? ⟨w2.heap.size + 1 + 1, 3, none⟩ = some (.int .i64 C.a) := KC.cell 3
    have zC4 : w8.cell? ⟨w2.heap.size + 1 + 1, 4, none⟩ = some (.int .i64 C.b) := KC.cell 4
    have zC5 : w8.cell? ⟨w2.heap.size + 1 + 1, 5, none⟩ = some (.int .i64 C.val) := KC.cell 5
    have zC6 : w8.cell? ⟨w2.heap.size + 1 + 1, 6, none⟩ = some (.bool C.is) := KC.cell 6
    have zC7 : w8.cell? ⟨w2.heap.size + 1 + 1, 7, none⟩ = some (.int .i64 C.first) := KC.cell 7
    have zC8 : w8.cell? ⟨w2.heap.size + 1 + 1, 8, none⟩ = some (.int .i64 C.last) := KC.cell 8
    have zC9 : w8.cell? ⟨w2.heap.size + 1 + 1, 9, none⟩ = some (.int .i64 C.point) := KC.cell 9
    have zD0 : w8.cell? ⟨w2.heap.size + 1 + 1 + 1, 0, none⟩ = some (.int .i64 D.who) := KD.cell 0
    have zD1 : w8.cell? ⟨w2.heap.size + 1 + 1 + 1, 1, none⟩ = some (.int .i64 D.kind) := KD.cell 1
    have zD2 : w8.cell? ⟨w2.heap.size + 1 + 1 + 1, 2, none⟩ = some (.int .i64 D.obj) := KD.cell 2
    have zD3 : w8.cell? ⟨w2.heap.size + 1 + 1 + 1, 3, none⟩ = some (.int .i64 D.a) := KD.cell 3
    have zD4 : w8.cell? ⟨w2.heap.size + 1 + 1 + 1, 4, none⟩ = some (.int .i64 D.b) := KD.cell 4
    have zD5 : w8.cell? ⟨w2.heap.size + 1 + 1 + 1, 5, none⟩ = some (.int .i64 D.val) := KD.cell 5
    have zD6 : w8.cell? ⟨w2.heap.size + 1 + 1 + 1, 6, none⟩ = some (.bool D.is) := KD.cell 6
    have zD7 : w8.cell? ⟨w2.heap.size + 1 + 1 + 1, 7, none⟩ = some (.int .i64 D.first) := KD.cell 7
    have zD8 : w8.cell? ⟨w2.heap.size + 1 + 1 + 1, 8, none⟩ = some (.int .i64 D.last) := KD.cell 8
    have zD9 : w8.cell? ⟨w2.heap.size + 1 + 1 + 1, 9, none⟩ = some (.int .i64 D.point) := KD.cell 9
    cases hq : bc
    · subst hq
      rcases (show ((A.who == B.who) = false) ∨ ((A.who == B.who) = true ∧ (A.first != B.first) = false ∧ (A.first == B.first) = true) ∨ ((A.who == B.who) = true ∧ (A.first != B.first) = true ∧ (A.first == B.first) = false) by
        by_cases h1 : A.who = B.who
        · by_cases h2 : A.first = B.first
          · exact .inr (.inl ⟨by simp; exact h1, by simp; exact h2, by simp; exact h2⟩)
          · exact .inr (.inr ⟨by simp; exact h1, by simp; exact h2, by simp; exact h2⟩)
        · exact .inl (by simp; exact h1)) with e1 | ⟨e1, e2, e3⟩ | ⟨e1, e2, e3⟩
      all_goals
        go_wp2_with fail
        refine (H6.out _).mono ?_
        rintro e w9 ⟨rfl, hb9⟩
        clear zA0 zA1 zA2 zA3 zA4 zA5 zA6 zA7 zA8 zA9 zB0 zB1 zB2 zB3 zB4 zB5 zB6 zB7 zB8 zB9 zC0 zC1 zC2 zC3 zC4 zC5 zC6 zC7 zC8 zC9 zD0 zD1 zD2 zD3 zD4 zD5 zD6 zD7 zD8 zD9
        have hB9 := hB8.trans (hb9.mono hB8.size)
        have KA := KA.later hb9
        have KB := KB.later hb9
        have KC := KC.later hb9
        have KD := KD.later hb9
        have zA0 : w9.cell? ⟨w2.heap.size, 0, none⟩ = some (.int .i64 A.who) := KA.cell 0
        have zA1 : w9.cell? ⟨w2.heap.size, 1, none⟩ = some (.int .i64 A.kind) := KA.cell 1
        have zA2 : w9.cell? ⟨w2.heap.size, 2, none⟩ = some (.int .i64 A.obj) := KA.cell 2
        have zA3 : w9.cell? ⟨w2.heap.size, 3, none⟩ = some (.int .i64 A.a) := KA.cell 3
        have zA4 : w9.cell? ⟨w2.heap.size, 4, none⟩ = some (.int .i64 A.b) := KA.cell 4
        have zA5 : w9.cell? ⟨w2.heap.size, 5, none⟩ = some (.int .i64 A.val) := KA.cell 5
        have zA6 : w9.cell? ⟨w2.heap.size, 6, none⟩ = some (.bool A.is) := KA.cell 6
        have zA7 : w9.cell? ⟨w2.heap.size, 7, none⟩ = some (.int .i64 A.first) := KA.cell 7
        have zA8 : w9.cell? ⟨w2.heap.size, 8, none⟩ = some (.int .i64 A.last) := KA.cell 8
        have zA9 : w9.cell? ⟨w2.heap.size, 9, none⟩ = some (.int .i64 A.point) := KA.cell 9
        have zB0 : w9.cell? ⟨w2.heap.size + 1, 0, none⟩ = some (.int .i64 B.who) := KB.cell 0
        have zB1 : w9.cell? ⟨w2.heap.size + 1, 1, none⟩ = some (.int .i64 B.kind) := KB.cell 1
        have zB2 : w9.cell? ⟨w2.heap.size + 1, 2, none⟩ = some (.int .i64 B.obj) := KB.cell 2
        have zB3 : w9.cell? ⟨w2.heap.size + 1, 3, none⟩ = some (.int .i64 B.a) := KB.cell 3
        have zB4 : w9.cell? ⟨w2.heap.size + 1, 4, none⟩ = some (.int .i64 B.b) := KB.cell 4
        have zB5 : w9.cell? ⟨w2.heap.size + 1, 5, none⟩ = some (.int .i64 B.val) := KB.cell 5
        have zB6 : w9.cell? ⟨w2.heap.size + 1, 6, none⟩ = some (.bool B.is) := KB.cell 6
        have zB7 : w9.cell? ⟨w2.heap.size + 1, 7, none⟩ = some (.int .i64 B.first) := KB.cell 7
        have zB8 : w9.cell? ⟨w2.heap.size + 1, 8, none⟩ = some (.int .i64 B.last) := KB.cell 8
        have zB9 : w9.cell? ⟨w2.heap.size + 1, 9, none⟩ = some (.int .i64 B.point) := KB.cell 9
        have zC0 : w9.cell? ⟨w2.heap.size + 1 + 1, 0, none⟩ = some (.int .i64 C.who) := KC.cell 0
        have zC1 : w9.cell? ⟨w2.heap.size + 1 + 1, 1, none⟩ = some (.int .i64 C.kind) := KC.cell 1
        have zC2 : w9.cell? ⟨w2.heap.size + 1 + 1, 2, none⟩ = some (.int .i64 C.obj) := KC.cell 2
        have zC3 : w9.cell? ⟨w2.heap.size + 1 + 1, 3, none⟩ = some (.int .i64 C.a) := KC.cell 3
        have zC4 : w9.cell? ⟨w2.heap.size + 1 + 1, 4, none⟩ = some (.int .i64 C.b) := KC.cell 4
        have zC5 : w9.cell? ⟨w2.heap.size + 1 + 1, 5, none⟩ = some (.int .i64 C.val) := KC.cell 5
        have zC6 : w9.cell? ⟨w2.heap.size + 1 + 1, 6, none⟩ = some (.bool C.is) := KC.cell 6
        have zC7 : w9.cell? ⟨w2.heap.size + 1 + 1, 7, none⟩ = some (.int .i64 C.first) := KC.cell 7
        have zC8 : w9.cell? ⟨w2.heap.size + 1 + 1, 8, none⟩ = some (.int .i64 C.last) := KC.cell 8
        have zC9 : w9.cell? ⟨w2.heap.size + 1 + 1, 9, none⟩ = some (.int .i64 C.point) := KC.cell 9
        have zD0 : w9.cell? ⟨w2.heap.size + 1 + 1 + 1, 0, none⟩ = some (.int .i64 D.who) := KD.cell 0
        have zD1 : w9.cell? ⟨w2.heap.size + 1 + 1 + 1, 1, none⟩ = some (.int .i64 D.kind) := KD.cell 1
        have zD2 : w9.cell? ⟨w2.heap.size + 1 + 1 + 1, 2, none⟩ = some (.int .i64 D.obj) := KD.cell 2
        have zD3 : w9.cell? ⟨w2.heap.size + 1 + 1 + 1, 3, none⟩ = some (.int .i64 D.a) := KD.cell 3
        have zD4 : w9.cell? ⟨w2.heap.size + 1 + 1 + 1, 4, none⟩ = some (.int .i64 D.b) := KD.cell 4
        have zD5 : w9.cell? ⟨w2.heap.size + 1 + 1 + 1, 5, none⟩ = some (.int .i64 D.val) := KD.cell 5
        have zD6 : w9.cell? ⟨w2.heap.size + 1 + 1 + 1, 6, none⟩ = some (.bool D.is) := KD.cell 6
        have zD7 : w9.cell? ⟨w2.heap.size + 1 + 1 + 1, 7, none⟩ = some (.int .i64 D.first) := KD.cell 7
        have zD8 : w9.cell? ⟨w2.heap.size + 1 + 1 + 1, 8, none⟩ = some (.int .i64 D.last) := KD.cell 8
        have zD9 : w9.cell? ⟨w2.heap.size + 1 + 1 + 1, 9, none⟩ = some (.int .i64 D.point) := KD.cell 9
        cases hq : cd
        · subst hq
          go_wp2_with fail
          go_ret
          exact ⟨rfl, hB9⟩
        have HCD2 : Hid (aheadB C D = true) := Lib.hid (by rw [HCD.out, hq])
        subst hq
        go_wp2_with fail
        refine (H7.out _).mono ?_
        rintro e w10 ⟨rfl, hb10⟩
        clear zA0 zA1 zA2 zA3 zA4 zA5 zA6 zA7 zA8 zA9 zB0 zB1 zB2 zB3 zB4 zB5 zB6 zB7 zB8 zB9 zC0 zC1 zC2 zC3 zC4 zC5 zC6 zC7 zC8 zC9 zD0 zD1 zD2 zD3 zD4 zD5 zD6 zD7 zD8 zD9
        have hB10 := hB9.trans (hb10.mono hB9.size)
        have KA := KA.later hb10
        have KB := KB.later hb10
        have KC := KC.later hb10
        have KD := KD.later hb10
        have zA0 : w10.cell? ⟨w2.heap.size, 0, none⟩ = some (.int .i64 A.who) := KA.cell 0
        have zA1 : w10.cell? ⟨w2.heap.size, 1, none⟩ = some (.int .i64 A.kind) := KA.cell 1
        have zA2 : w10.cell? ⟨w2.heap.size, 2, none⟩ = some (.int .i64 A.obj) := KA.cell 2
        have zA3 : w10.cell? ⟨w2.heap.size, 3, none⟩ = some (.int .i64 A.a) := KA.cell 3
        have zA4 : w10.cell? ⟨w2.heap.size, 4, none⟩ = some (.int .i64 A.b) := KA.cell 4
        have zA5 : w10.cell? ⟨w2.heap.size, 5, none⟩ = some (.int .i64 A.val) := KA.cell 5
        have zA6 : w10.cell? ⟨w2.heap.size, 6, none⟩ = some (.bool A.is) := KA.cell 6
        have zA7 : w10.cell? ⟨w2.heap.size, 7, none⟩ = some (.int .i64 A.first) := KA.cell 7
        have zA8 : w10.cell? ⟨w2.heap.size, 8, none⟩ = some (.int .i64 A.last) := KA.cell 8
        have zA9 : w10.cell? ⟨w2.heap.size, 9, none⟩ = some (.int .i64 A.point) := KA.cell 9
        have zB0 : w10.cell? ⟨w2.heap.size + 1, 0, none⟩ = some (.int .i64 B.who) := KB.cell 0
        have zB1 : w10.cell? ⟨w2.heap.size + 1, 1, none⟩ = some (.int .i64 B.kind) := KB.cell 1
        have zB2 : w10.cell? ⟨w2.heap.size + 1, 2, none⟩ = some (.int .i64 B.obj) := KB.cell 2
        have zB3 : w10.cell? ⟨w2.heap.size + 1, 3, none⟩ = some (.int .i64 B.a) := KB.cell 3
        have zB4 : w10.cell? ⟨w2.heap.size + 1, 4, none⟩ = some (.int .i64 B.b) := KB.cell 4
        have zB5 : w10.cell? ⟨w2.heap.size + 1, 5, none⟩ = some (.int .i64 B.val) := KB.cell 5
        have zB6 : w10.cell? ⟨w2.heap.size + 1, 6, none⟩ = some (.bool B.is) := KB.cell 6
        have zB7 : w10.cell? ⟨w2.heap.size + 1, 7, none⟩ = some (.int .i64 B.first) := KB.cell 7
        have zB8 : w10.cell? ⟨w2.heap.size + 1, 8, none⟩ = some (.int .i64 B.last) := KB.cell 8
        have zB9 : w10.cell? ⟨w2.heap.size + 1, 9, none⟩ = some (.int .i64 B.point) := KB.cell 9
        have zC0 : w10.cell? ⟨w2.heap.size + 1 + 1, 0, none⟩ = some (.int .i64 C.who) := KC.cell 0
        have zC1 : w10.cell? ⟨w2.heap.size + 1 + 1, 1, none⟩ = some (.int .i64 C.kind) := KC.cell 1
        have zC2 : w10.cell? ⟨w2.heap.size + 1 + 1, 2, none⟩ = some (.int .i64 C.obj) := KC.cell 2
        have zC3 : w10.cell? ⟨w2.heap.size + 1 + 1, 3, none⟩ = some (.int .i64 C.a) := KC.cell 3
        have zC4 : w10.cell? ⟨w2.heap.size + 1 + 1, 4, none⟩ = some (.int .i64 C.b) := KC.cell 4
        have zC5 : w10.cell? ⟨w2.heap.size + 1 + 1, 5, none⟩ = some (.int .i64 C.val) := KC.cell 5
        have zC6 : w10.cell? ⟨w2.heap.size + 1 + 1, 6, none⟩ = some (.bool C.is) := KC.cell 6
        have zC7 : w10.cell? ⟨w2.heap.size + 1 + 1, 7, none⟩ = some (.int .i64 C.first) := KC.cell 7
        have zC8 : w10.cell? ⟨w2.heap.size + 1 + 1, 8, none⟩ = some (.int .i64 C.last) := KC.cell 8
        have zC9 : w10.cell? ⟨w2.heap.size + 1 + 1, 9, none⟩ = some (.int .i64 C.point) := KC.cell 9
        have zD0 : w10.cell? ⟨w2.heap.size + 1 + 1 + 1, 0, none⟩ = some (.int .i64 D.who) := KD.cell 0
        have zD1 : w10.cell? ⟨w2.heap.size + 1 + 1 + 1, 1, none⟩ = some (.int .i64 D.kind) := KD.cell 1
        have zD2 : w10.cell? ⟨w2.heap.size + 1 + 1 + 1, 2, none⟩ = some (.int .i64 D.obj) := KD.cell 2
        have zD3 : w10.cell? ⟨w2.heap.size + 1 + 1 + 1, 3, none⟩ = some (.int .i64 D.a) := KD.cell 3
        have zD4 : w10.cell? ⟨w2.heap.size + 1 + 1 + 1, 4, none⟩ = some (.int .i64 D.b) := KD.cell 4
        have zD5 : w10.cell? ⟨w2.heap.size + 1 + 1 + 1, 5, none⟩ = some (.int .i64 D.val) := KD.cell 5
        have zD6 : w10.cell? ⟨w2.heap.size + 1 + 1 + 1, 6, none⟩ = some (.bool D.is) := KD.cell 6
        have zD7 : w10.cell? ⟨w2.heap.size + 1 + 1 + 1, 7, none⟩ = some (.int .i64 D.first) := KD.cell 7
        have zD8 : w10.cell? ⟨w2.heap.size + 1 + 1 + 1, 8, none⟩ = some (.int .i64 D.last) := KD.cell 8
        have zD9 : w10.cell? ⟨w2.heap.size + 1 + 1 + 1, 9, none⟩ = some (.int .i64 D.point) := KD.cell 9
        cases hq : ad
        · have H8 := Lib.hid fun wx => ahead_v C B true (ahead_or HAB2.out HCD2.out (by rw [HAD.out, hq])) wx
          subst hq
          go_wp2_with fail
          refine (H8.out _).mono ?_
          rintro e w11 ⟨rfl, hb11⟩
          clear zA0 zA1 zA2 zA3 zA4 zA5 zA6 zA7 zA8 zA9 zB0 zB1 zB2 zB3 zB4 zB5 zB6 zB7 zB8 zB9 zC0 zC1 zC2 zC3 zC4 zC5 zC6 zC7 zC8 zC9 zD0 zD1 zD2 zD3 zD4 zD5 zD6 zD7 zD8 zD9
          have hB11 := hB10.trans (hb11.mono hB10.size)
          have KA := KA.later hb11
          have KB := KB.later hb11
          have KC := KC.later hb11
          have KD := KD.later hb11
          have zA0 : w11.cell? ⟨w2.heap.size, 0, none⟩ = some (.int .i64 A.who) := KA.cell 0
          have zA1 : w11.cell? ⟨w2.heap.size, 1, none⟩ = some (.int .i64 A.kind) := KA.cell 1
          have zA2 : w11.cell? ⟨w2.heap.size, 2, none⟩ = some (.int .i64 A.obj) := KA.cell 2
          have zA3 : w11.cell? ⟨w2.heap.size, 3, none⟩ = some (.int .i64 A.a) := KA.cell 3
          have zA4 : w11.cell? ⟨w2.heap.size, 4, none⟩ = some (.int .i64 A.b) := KA.cell 4
          have zA5 : w11.cell? ⟨w2.heap.size, 5, none⟩ = some (.int .i64 A.val) := KA.cell 5
          have zA6 : w11.cell? ⟨w2.heap.size, 6, none⟩ = some (.bool A.is) := KA.cell 6
          have zA7 : w11.cell? ⟨w2.heap.size, 7, none⟩ = some (.int .i64 A.first) := KA.cell 7
          have zA8 : w11.cell? ⟨w2.heap.size, 8, none⟩ = some (.int .i64 A.last) := KA.cell 8
          have zA9 : w11.cell? ⟨w2.heap.size, 9, none⟩ = some (.int .i64 A.point) := KA.cell 9
          have zB0 : w11.cell? ⟨w2.heap.size + 1, 0, none⟩ = some (.int .i64 B.who) := KB.cell 0
          have zB1 : w11.cell? ⟨w2.heap.size + 1, 1, none⟩ = some (.int .i64 B.kind) := KB.cell 1
          have zB2 : w11.cell? ⟨w2.heap.size + 1, 2, none⟩ = some (.int .i64 B.obj) := KB.cell 2
          have zB3 : w11.cell? ⟨w2.heap.size + 1, 3, none⟩ = some (.int .i64 B.a) := KB.cell 3
          have zB4 : w11.cell? ⟨w2.heap.size + 1, 4, none⟩ = some (.int .i64 B.b) := KB.cell 4
          have zB5 : w11.cell? ⟨w2.heap.size + 1, 5, none⟩ = some (.int .i64 B.val) := KB.cell 5
          have zB6 : w11.cell? ⟨w2.heap.size + 1, 6, none⟩ = some (.bool B.is) := KB.cell 6
          have zB7 : w11.cell? ⟨w2.heap.size + 1, 7, none⟩ = some (.int .i64 B.first) := KB.cell 7
          have zB8 : w11.cell? ⟨w2.heap.size + 1, 8, none⟩ = some (.int .i64 B.last) := KB.cell 8
          have zB9 : w11.cell? ⟨w2.heap.size + 1, 9, none⟩ = some (.int .i64 B.point) := KB.cell 9
          have zC0 : w11.cell? ⟨w2.heap.size + 1 + 1, 0, none⟩ = some (.int .i64 C.who) := KC.cell 0
          have zC1 : w11.cell? ⟨w2.heap.size + 1 + 1, 1, none⟩ = some (.int .i64 C.kind) := KC.cell 1
          have zC2 : w11.cell? ⟨w2.heap.size + 1 + 1, 2, none⟩ = some (.int .i64 C.obj) := KC.cell 2
          have zC3 : w11.cell? ⟨w2.heap.size + 1 + 1, 3, none⟩ = some (.int .i64 C.a) := KC.cell 3
          have zC4 : w11.cell? ⟨w2.heap.size + 1 + 1, 4, none⟩ = some (.int .i64 C.b) := KC.cell 4
          have zC5 : w11.cell? ⟨w2.heap.size + 1 + 1, 5, none⟩ = some (.int .i64 C.val) := KC.cell 5
          have zC6 : w11.cell? ⟨w2.heap.size + 1 + 1, 6, none⟩ = some (.bool C.is) := KC.cell 6
          have zC7 : w11.cell? ⟨w2.heap.size + 1 + 1, 7, none⟩ = some (.int .i64 C.first) := KC.cell 7
          have zC8 : w11.cell? ⟨w2.heap.size + 1 + 1, 8, none⟩ = some (.int .i64 C.last) := KC.cell 8
          have zC9 : w11.cell? ⟨w2.heap.size + 1 + 1, 9, none⟩ = some (.int .i64 C.point) := KC.cell 9
          have zD0 : w11.cell? ⟨w2.heap.size + 1 + 1 + 1, 0, none⟩ = some (.int .i64 D.who) := KD.cell 0
          have zD1 : w11.cell? ⟨w2.heap.size + 1 + 1 + 1, 1, none⟩ = some (.int .i64 D.kind) := KD.cell 1
          have zD2 : w11.cell? ⟨w2.heap.size + 1 + 1 + 1, 2, none⟩ = some (.int .i64 D.obj) := KD.cell 2
          have zD3 : w11.cell? ⟨w2.heap.size + 1 + 1 + 1, 3, none⟩ = some (.int .i64 D.a) := KD.cell 3
          have zD4 : w11.cell? ⟨w2.heap.size + 1 + 1 + 1, 4, none⟩ = some (.int .i64 D.b) := KD.cell 4
          have zD5 : w11.cell? ⟨w2.heap.size + 1 + 1 + 1, 5, none⟩ = some (.int .i64 D.val) := KD.cell 5
          have zD6 : w11.cell? ⟨w2.heap.size + 1 + 1 + 1, 6, none⟩ = some (.bool D.is) := KD.cell 6
          have zD7 : w11.cell? ⟨w2.heap.size + 1 + 1 + 1, 7, none⟩ = some (.int .i64 D.first) := KD.cell 7
          have zD8 : w11.cell? ⟨w2.heap.size + 1 + 1 + 1, 8, none⟩ = some (.int .i64 D.last) := KD.cell 8
          have zD9 : w11.cell? ⟨w2.heap.size + 1 + 1 + 1, 9, none⟩ = some (.int .i64 D.point) := KD.cell 9
          go_wp2_with fail
          go_ret
          exact ⟨rfl, hB11⟩
        · subst hq
          go_wp2_with fail
          go_ret
          exact ⟨rfl, hB10⟩
    · have H5 := Lib.hid fun wx => ahead_v A C true (ahead_on MB.out HAB2.out (by rw [HBC.out, hq])) wx
      subst hq
      go_wp2_with fail
      refine (H5.out _).mono ?_
      rintro e w9 ⟨rfl, hb9⟩
      clear zA0 zA1 zA2 zA3 zA4 zA5 zA6 zA7 zA8 zA9 zB0 zB1 zB2 zB3 zB4 zB5 zB6 zB7 zB8 zB9 zC0 zC1 zC2 zC3 zC4 zC5 zC6 zC7 zC8 zC9 zD0 zD1 zD2 zD3 zD4 zD5 zD6 zD7 zD8 zD9
      have hB9 := hB8.trans (hb9.mono hB8.size)
      have KA := KA.later hb9
      have KB := KB.later hb9
      have KC := KC.later hb9
      have KD := KD.later hb9
      have zA0 : w9.cell? ⟨w2.heap.size, 0, none⟩ = some (.int .i64 A.who) := KA.cell 0
      have zA1 : w9.cell? ⟨w2.heap.size, 1, none⟩ = some (.int .i64 A.kind) := KA.cell 1
      have zA2 : w9.cell? ⟨w2.heap.size, 2, none⟩ = some (.int .i64 A.obj) := KA.cell 2
      have zA3 : w9.cell? ⟨w2.heap.size, 3, none⟩ = some (.int .i64 A.a) := KA.cell 3
      have zA4 : w9.cell? ⟨w2.heap.size, 4, none⟩ = some (.int .i64 A.b) := KA.cell 4
      have zA5 : w9.cell? ⟨w2.heap.size, 5, none⟩ = some (.int .i64 A.val) := KA.cell 5
      have zA6 : w9.cell? ⟨w2.heap.size, 6, none⟩ = some (.bool A.is) := KA.cell 6
      have zA7 : w9.cell? ⟨w2.heap.size, 7, none⟩ = some (.int .i64 A.first) := KA.cell 7
      have zA8 : w9.cell? ⟨w2.heap.size, 8, none⟩ = some (.int .i64 A.last) := KA.cell 8
      have zA9 : w9.cell? ⟨w2.heap.size, 9, none⟩ = some (.int .i64 A.point) := KA.cell 9
      have zB0 : w9.cell? ⟨w2.heap.size + 1, 0, none⟩ = some (.int .i64 B.who) := KB.cell 0
      have zB1 : w9.cell? ⟨w2.heap.size + 1, 1, none⟩ = some (.int .i64 B.kind) := KB.cell 1
      have zB2 : w9.cell? ⟨w2.heap.size + 1, 2, none⟩ = some (.int .i64 B.obj) := KB.cell 2
      have zB3 : w9.cell? ⟨w2.heap.size + 1, 3, none⟩ = some (.int .i64 B.a) := KB.cell 3
      have zB4 : w9.cell? ⟨w2.heap.size + 1, 4, none⟩ = some (.int .i64 B.b) := KB.cell 4
      have zB5 : w9.cell? ⟨w2.heap.size + 1, 5, none⟩ = some (.int .i64 B.val) := KB.cell 5
      have zB6 : w9.cell? ⟨w2.heap.size + 1, 6, none⟩ = some (.bool B.is) := KB.cell 6
      have zB7 : w9.cell? ⟨w2.heap.size + 1, 7, none⟩ = some (.int .i64 B.first) := KB.cell 7
      have zB8 : w9.cell? ⟨w2.heap.size + 1, 8, none⟩ = some (.int .i64 B.last) := KB.cell 8
      have zB9 : w9.cell? ⟨w2.heap.size + 1, 9, none⟩ = some (.int .i64 B.point) := KB.cell 9
      have zC0 : w9.cell? ⟨w2.heap.size + 1 + 1, 0, none⟩ = some (.int .i64 C.who) := KC.cell 0
      have zC1 : w9.cell? ⟨w2.heap.size + 1 + 1, 1, none⟩ = some (.int .i64 C.kind) := KC.cell 1
      have zC2 : w9.cell? ⟨w2.heap.size + 1 + 1, 2, none⟩ = some (.int .i64 C.obj) := KC.cell 2
      have zC3 : w9.cell? ⟨w2.heap.size + 1 + 1, 3, none⟩ = some (.int .i64 C.a) := KC.cell 3
      have zC4 : w9.cell? ⟨w2.heap.size + 1 + 1, 4, none⟩ = some (.int .i64 C.b) := KC.cell 4
      have zC5 : w9.cell? ⟨w2.heap.size + 1 + 1, 5, none⟩ = some (.int .i64 C.val) := KC.cell 5
      have zC6 : w9.cell? ⟨w2.heap.size + 1 + 1, 6, none⟩ = some (.bool C.is) := KC.cell 6
      have zC7 : w9.cell? ⟨w2.heap.size + 1 + 1, 7, none⟩ = some (.int .i64 C.first) := KC.cell 7
      have zC8 : w9.cell? ⟨w2.heap.size + 1 + 1, 8, none⟩ = some (.int .i64 C.last) := KC.cell 8
      have zC9 : w9.cell? ⟨w2.heap.size + 1 + 1, 9, none⟩ = some (.int .i64 C.point) := KC.cell 9
      have zD0 : w9.cell? ⟨w2.heap.size + 1 + 1 + 1, 0, none⟩ = some (.int .i64 D.who) := KD.cell 0
      have zD1 : w9.cell? ⟨w2.heap.size + 1 + 1 + 1, 1, none⟩ = some (.int .i64 D.kind) := KD.cell 1
      have zD2 : w9.cell? ⟨w2.heap.size + 1 + 1 + 1, 2, none⟩ = some (.int .i64 D.obj) := KD.cell 2
      have zD3 : w9.cell? ⟨w2.heap.size + 1 + 1 + 1, 3, none⟩ = some (.int .i64 D.a) := KD.cell 3
      have zD4 : w9.cell? ⟨w2.heap.size + 1 + 1 + 1, 4, none⟩ = some (.int .i64 D.b) := KD.cell 4
      have zD5 : w9.cell? ⟨w2.heap.size + 1 + 1 + 1, 5, none⟩ = some (.int .i64 D.val) := KD.cell 5
      have zD6 : w9.cell? ⟨w2.heap.size + 1 + 1 + 1, 6, none⟩ = some (.bool D.is) := KD.cell 6
      have zD7 : w9.cell? ⟨w2.heap.size + 1 + 1 + 1, 7, none⟩ = some (.int .i64 D.first) := KD.cell 7
      have zD8 : w9.cell? ⟨w2.heap.size + 1 + 1 + 1, 8, none⟩ = some (.int .i64 D.last) := KD.cell 8
      have zD9 : w9.cell? ⟨w2.heap.size + 1 + 1 + 1, 9, none⟩ = some (.int .i64 D.point) := KD.cell 9
      rcases (show ((A.who == B.who) = false) ∨ ((A.who == B.who) = true ∧ (A.first != B.first) = false ∧ (A.first == B.first) = true) ∨ ((A.who == B.who) = true ∧ (A.first != B.first) = true ∧ (A.first == B.first) = false) by
        by_cases h1 : A.who = B.who
        · by_cases h2 : A.first = B.first
          · exact .inr (.inl ⟨by simp; exact h1, by simp; exact h2, by simp; exact h2⟩)
          · exact .inr (.inr ⟨by simp; exact h1, by simp; exact h2, by simp; exact h2⟩)
        · exact .inl (by simp; exact h1)) with e1 | ⟨e1, e2, e3⟩ | ⟨e1, e2, e3⟩
      all_goals
        go_wp2_with fail
        refine (H6.out _).mono ?_
        rintro e w10 ⟨rfl, hb10⟩
        clear zA0 zA1 zA2 zA3 zA4 zA5 zA6 zA7 zA8 zA9 zB0 zB1 zB2 zB3 zB4 zB5 zB6 zB7 zB8 zB9 zC0 zC1 zC2 zC3 zC4 zC5 zC6 zC7 zC8 zC9 zD0 zD1 zD2 zD3 zD4 zD5 zD6 zD7 zD8 zD9
        have hB10 := hB9.trans (hb10.mono hB9.size)
        have KA := KA.later hb10
        have KB := KB.later hb10
        have KC := KC.later hb10
        have KD := KD.later hb10
        have zA0 : w10.cell? ⟨w2.heap.size, 0, none⟩ = some (.int .i64 A.who) := KA.cell 0
        have zA1 : w10.cell? ⟨w2.heap.size, 1, none⟩ = some (.int .i64 A.kind) := KA.cell 1
        have zA2 : w10.cell? ⟨w2.heap.size, 2, none⟩ = some (.int .i64 A.obj) := KA.cell 2
        have zA3 : w10.cell? ⟨w2.heap.size, 3, none⟩ = some (.int .i64 A.a) := KA.cell 3
        have zA4 : w10.cell? ⟨w2.heap.size, 4, none⟩ = some (.int .i64 A.b) := KA.cell 4
        have zA5 : w10.cell? ⟨w2.heap.size, 5, none⟩ = some (.int .i64 A.val) := KA.cell 5
        have zA6 : w10.cell? ⟨w2.heap.size, 6, none⟩ = some (.bool A.is) := KA.cell 6
        have zA7 : w10.cell? ⟨w2.heap.size, 7, none⟩ = some (.int .i64 A.first) := KA.cell 7
        have zA8 : w10.cell? ⟨w2.heap.size, 8, none⟩ = some (.int .i64 A.last) := KA.cell 8
        have zA9 : w10.cell? ⟨w2.heap.size, 9, none⟩ = some (.int .i64 A.point) := KA.cell 9
        have zB0 : w10.cell? ⟨w2.heap.size + 1, 0, none⟩ = some (.int .i64 B.who) := KB.cell 0
        have zB1 : w10.cell? ⟨w2.heap.size + 1, 1, none⟩ = some (.int .i64 B.kind) := KB.cell 1
        have zB2 : w10.cell? ⟨w2.heap.size + 1, 2, none⟩ = some (.int .i64 B.obj) := KB.cell 2
        have zB3 : w10.cell? ⟨w2.heap.size + 1, 3, none⟩ = some (.int .i64 B.a) := KB.cell 3
        have zB4 : w10.cell? ⟨w2.heap.size + 1, 4, none⟩ = some (.int .i64 B.b) := KB.cell 4
        have zB5 : w10.cell? ⟨w2.heap.size + 1, 5, none⟩ = some (.int .i64 B.val) := KB.cell 5
        have zB6 : w10.cell? ⟨w2.heap.size + 1, 6, none⟩ = some (.bool B.is) := KB.cell 6
        have zB7 : w10.cell? ⟨w2.heap.size + 1, 7, none⟩ = some (.int .i64 B.first) := KB.cell 7
        have zB8 : w10.cell? ⟨w2.heap.size + 1, 8, none⟩ = some (.int .i64 B.last) := KB.cell 8
        have zB9 : w10.cell? ⟨w2.heap.size + 1, 9, none⟩ = some (.int .i64 B.point) := KB.cell 9
        have zC0 : w10.cell? ⟨w2.heap.size + 1 + 1, 0, none⟩ = some (.int .i64 C.who) := KC.cell 0
        have zC1 : w10.cell? ⟨w2.heap.size + 1 + 1, 1, none⟩ = some (.int .i64 C.kind) := KC.cell 1
        have zC2 : w10.cell? ⟨w2.heap.size + 1 + 1, 2, none⟩ = some (.int .i64 C.obj) := KC.cell 2
        have zC3 : w10.cell? ⟨w2.heap.size + 1 + 1, 3, none⟩ = some (.int .i64 C.a) := KC.cell 3
        have zC4 : w10.cell? ⟨w2.heap.size + 1 + 1, 4, none⟩ = some (.int .i64 C.b) := KC.cell 4
        have zC5 : w10.cell? ⟨w2.heap.size + 1 + 1, 5, none⟩ = some (.int .i64 C.val) := KC.cell 5
        have zC6 : w10.cell? ⟨w2.heap.size + 1 + 1, 6, none⟩ = some (.bool C.is) := KC.cell 6
        have zC7 : w10.cell? ⟨w2.heap.size + 1 + 1, 7, none⟩ = some (.int .i64 C.first) := KC.cell 7
        have zC8 : w10.cell? ⟨w2.heap.size + 1 + 1, 8, none⟩ = some (.int .i64 C.last) := KC.cell 8
        have zC9 : w10.cell? ⟨w2.heap.size + 1 + 1, 9, none⟩ = some (.int .i64 C.point) := KC.cell 9
        have zD0 : w10.cell? ⟨w2.heap.size + 1 + 1 + 1, 0, none⟩ = some (.int .i64 D.who) := KD.cell 0
        have zD1 : w10.cell? ⟨w2.heap.size + 1 + 1 + 1, 1, none⟩ = some (.int .i64 D.kind) := KD.cell 1
        have zD2 : w10.cell? ⟨w2.heap.size + 1 + 1 + 1, 2, none⟩ = some (.int .i64 D.obj) := KD.cell 2
        have zD3 : w10.cell? ⟨w2.heap.size + 1 + 1 + 1, 3, none⟩ = some (.int .i64 D.a) := KD.cell 3
        have zD4 : w10.cell? ⟨w2.heap.size + 1 + 1 + 1, 4, none⟩ = some (.int .i64 D.b) := KD.cell 4
        have zD5 : w10.cell? ⟨w2.heap.size + 1 + 1 + 1, 5, none⟩ = some (.int .i64 D.val) := KD.cell 5
        have zD6 : w10.cell? ⟨w2.heap.size + 1 + 1 + 1, 6, none⟩ = some (.bool D.is) := KD.cell 6
        have zD7 : w10.cell? ⟨w2.heap.size + 1 + 1 + 1, 7, none⟩ = some (.int .i64 D.first) := KD.cell 7
        have zD8 : w10.cell? ⟨w2.heap.size + 1 + 1 + 1, 8, none⟩ = some (.int .i64 D.last) := KD.cell 8
        have zD9 : w10.cell? ⟨w2.heap.size + 1 + 1 + 1, 9, none⟩ = some (.int .i64 D.point) := KD.cell 9
        cases hq : cd
        · subst hq
          go_wp2_with fail
          go_ret
          exact ⟨rfl, hB10⟩
        have HCD2 : Hid (aheadB C D = true) := Lib.hid (by rw [HCD.out, hq])
        subst hq
        go_wp2_with fail
        refine (H7.out _).mono ?_
        rintro e w11 ⟨rfl, hb11⟩
        clear zA0 zA1 zA2 zA3 zA4 zA5 zA6 zA7 zA8 zA9 zB0 zB1 zB2 zB3 zB4 zB5 zB6 zB7 zB8 zB9 zC0 zC1 zC2 zC3 zC4 zC5 zC6 zC7 zC8 zC9 zD0 zD1 zD2 zD3 zD4 zD5 zD6 zD7 zD8 zD9
        have hB11 := hB10.trans (hb11.mono hB10.size)
        have KA := KA.later hb11
        have KB := KB.later hb11
        have KC := KC.later hb11
        have KD := KD.later hb11
        have zA0 : w11.cell? ⟨w2.heap.size, 0, none⟩ = some (.int .i64 A.who) := KA.cell 0
        have zA1 : w11.cell? ⟨w2.heap.size, 1, none⟩ = some (.int .i64 A.kind) := KA.cell 1
        have zA2 : w11.cell? ⟨w2.heap.size, 2, none⟩ = some (.int .i64 A.obj) := KA.cell 2
        have zA3 : w11.cell? ⟨w2.heap.size, 3, none⟩ = some (.int .i64 A.a) := KA.cell 3
        have zA4 : w11.cell? ⟨w2.heap.size, 4, none⟩ = some (.int .i64 A.b) := KA.cell 4
        have zA5 : w11.cell? ⟨w2.heap.size, 5, none⟩ = some (.int .i64 A.val) := KA.cell 5
        have zA6 : w11.cell? ⟨w2.heap.size, 6, none⟩ = some (.bool A.is) := KA.cell 6
        have zA7 : w11.cell? ⟨w2.heap.size, 7, none⟩ = some (.int .i64 A.first) := KA.cell 7
        have zA8 : w11.cell? ⟨w2.heap.size, 8, none⟩ = some (.int .i64 A.last) := KA.cell 8
        have zA9 : w11.cell? ⟨w2.heap.size, 9, none⟩ = some (.int .i64 A.point) := KA.cell 9
        have zB0 : w11.cell? ⟨w2.heap.size + 1, 0, none⟩ = some (.int .i64 B.who) := KB.cell 0
        have zB1 : w11.cell? ⟨w2.heap.size + 1, 1, none⟩ = some (.int .i64 B.kind) := KB.cell 1
        have zB2 : w11.cell? ⟨w2.heap.size + 1, 2, none⟩ = some (.int .i64 B.obj) := KB.cell 2
        have zB3 : w11.cell? ⟨w2.heap.size + 1, 3, none⟩ = some (.int .i64 B.a) := KB.cell 3
        have zB4 : w11.cell? ⟨w2.heap.size + 1, 4, none⟩ = some (.int .i64 B.b) := KB.cell 4
        have zB5 : w11.cell? ⟨w2.heap.size + 1, 5, none⟩ = some (.int .i64 B.val) := KB.cell 5
        have zB6 : w11.cell? ⟨w2.heap.size + 1, 6, none⟩ = some (.bool B.is) := KB.cell 6
        have zB7 : w11.cell? ⟨w2.heap.size + 1, 7, none⟩ = some (.int .i64 B.first) := KB.cell 7
        have zB8 : w11.cell? ⟨w2.heap.size + 1, 8, none⟩ = some (.int .i64 B.last) := KB.cell 8
        have zB9 : w11.cell? ⟨w2.heap.size + 1, 9, none⟩ = some (.int .i64 B.point) := KB.cell 9
        have zC0 : w11.cell? ⟨w2.heap.size + 1 + 1, 0, none⟩ = some (.int .i64 C.who) := KC.cell 0
        have zC1 : w11.cell? ⟨w2.heap.size + 1 + 1, 1, none⟩ = some (.int .i64 C.kind) := KC.cell 1
        have zC2 : w11.cell? ⟨w2.heap.size + 1 + 1, 2, none⟩ = some (.int .i64 C.obj) := KC.cell 2
        have zC3 : w11.cell? ⟨w2.heap.size + 1 + 1, 3, none⟩ = some (.int .i64 C.a) := KC.cell 3
        have zC4 : w11.cell? ⟨w2.heap.size + 1 + 1, 4, none⟩ = some (.int .i64 C.b) := KC.cell 4
        have zC5 : w11.cell? ⟨w2.heap.size + 1 + 1, 5, none⟩ = some (.int .i64 C.val) := KC.cell 5
        have zC6 : w11.cell? ⟨w2.heap.size + 1 + 1, 6, none⟩ = some (.bool C.is) := KC.cell 6
        have zC7 : w11.cell? ⟨w2.heap.size + 1 + 1, 7, none⟩ = some (.int .i64 C.first) := KC.cell 7
        have zC8 : w11.cell? ⟨w2.heap.size + 1 + 1, 8, none⟩ = some (.int .i64 C.last) := KC.cell 8
        have zC9 : w11.cell? ⟨w2.heap.size + 1 + 1, 9, none⟩ = some (.int .i64 C.point) := KC.cell 9
        have zD0 : w11.cell? ⟨w2.heap.size + 1 + 1 + 1, 0, none⟩ = some (.int .i64 D.who) := KD.cell 0
        have zD1 : w11.cell? ⟨w2.heap.size + 1 + 1 + 1, 1, none⟩ = some (.int .i64 D.kind) := KD.cell 1
        have zD2 : w11.cell? ⟨w2.heap.size + 1 + 1 + 1, 2, none⟩ = some (.int .i64 D.obj) := KD.cell 2
        have zD3 : w11.cell? ⟨w2.heap.size + 1 + 1 + 1, 3, none⟩ = some (.int .i64 D.a) := KD.cell 3
        have zD4 : w11.cell? ⟨w2.heap.size + 1 + 1 + 1, 4, none⟩ = some (.int .i64 D.b) := KD.cell 4
        have zD5 : w11.cell? ⟨w2.heap.size + 1 + 1 + 1, 5, none⟩ = some (.int .i64 D.val) := KD.cell 5
        have zD6 : w11.cell? ⟨w2.heap.size + 1 + 1 + 1, 6, none⟩ = some (.bool D.is) := KD.cell 6
        have zD7 : w11.cell? ⟨w2.heap.size + 1 + 1 + 1, 7, none⟩ = some (.int .i64 D.first) := KD.cell 7
        have zD8 : w11.cell? ⟨w2.heap.size + 1 + 1 + 1, 8, none⟩ = some (.int .i64 D.last) := KD.cell 8
        have zD9 : w11.cell? ⟨w2.heap.size + 1 + 1 + 1, 9, none⟩ = some (.int .i64 D.point) := KD.cell 9
        cases hq : ad
        · have H8 := Lib.hid fun wx => ahead_v C B true (ahead_or HAB2.out HCD2.out (by rw [HAD.out, hq])) wx
          subst hq
          go_wp2_with fail
          refine (H8.out _).mono ?_
          rintro e w12 ⟨rfl, hb12⟩
          clear zA0 zA1 zA2 zA3 zA4 zA5 zA6 zA7 zA8 zA9 zB0 zB1 zB2 zB3 zB4 zB5 zB6 zB7 zB8 zB9 zC0 zC1 zC2 zC3 zC4 zC5 zC6 zC7 zC8 zC9 zD0 zD1 zD2 zD3 zD4 zD5 zD6 zD7 zD8 zD9
          have hB12 := hB11.trans (hb12.mono hB11.size)
          have KA := KA.later hb12
          have KB := KB.later hb12
          have KC := KC.later hb12
          have KD := KD.later hb12
          have zA0 : w12.cell? ⟨w2.heap.size, 0, none⟩ = some (.int .i64 A.who) := KA.cell 0
          have zA1 : w12.cell? ⟨w2.heap.size, 1, none⟩ = some (.int .i64 A.kind) := KA.cell 1
          have zA2 : w12.cell? ⟨w2.heap.size, 2, none⟩ = some (.int .i64 A.obj) := KA.cell 2
          have zA3 : w12.cell? ⟨w2.heap.size, 3, none⟩ = some (.int .i64 A.a) := KA.cell 3
          have zA4 : w12.cell? ⟨w2.heap.size, 4, none⟩ = some (.int .i64 A.b) := KA.cell 4
          have zA5 : w12.cell? ⟨w2.heap.size, 5, none⟩ = some (.int .i64 A.val) := KA.cell 5
          have zA6 : w12.cell? ⟨w2.heap.size, 6, none⟩ = some (.bool A.is) := KA.cell 6
          have zA7 : w12.cell? ⟨w2.heap.size, 7, none⟩ = some (.int .i64 A.first) := KA.cell 7
          have zA8 : w12.cell? ⟨w2.heap.size, 8, none⟩ = some (.int .i64 A.last) := KA.cell 8
          have zA9 : w12.cell? ⟨w2.heap.size, 9, none⟩ = some (.int .i64 A.point) := KA.cell 9
          have zB0 : w12.cell? ⟨w2.heap.size + 1, 0, none⟩ = some (.int .i64 B.who) := KB.cell 0
          have zB1 : w12.cell? ⟨w2.heap.size + 1, 1, none⟩ = some (.int .i64 B.kind) := KB.cell 1
          have zB2 : w12.cell? ⟨w2.heap.size + 1, 2, none⟩ = some (.int .i64 B.obj) := KB.cell 2
          have zB3 : w12.cell? ⟨w2.heap.size + 1, 3, none⟩ = some (.int .i64 B.a) := KB.cell 3
          have zB4 : w12.cell? ⟨w2.heap.size + 1, 4, none⟩ = some (.int .i64 B.b) := KB.cell 4
          have zB5 : w12.cell? ⟨w2.heap.size + 1, 5, none⟩ = some (.int .i64 B.val) := KB.cell 5
          have zB6 : w12.cell? ⟨w2.heap.size + 1, 6, none⟩ = some (.bool B.is) := KB.cell 6
          have zB7 : w12.cell? ⟨w2.heap.size + 1, 7, none⟩ = some (.int .i64 B.first) := KB.cell 7
          have zB8 : w12.cell? ⟨w2.heap.size + 1, 8, none⟩ = some (.int .i64 B.last) := KB.cell 8
          have zB9 : w12.cell? ⟨w2.heap.size + 1, 9, none⟩ = some (.int .i64 B.point) := KB.cell 9
          have zC0 : w12.cell? ⟨w2.heap.size + 1 + 1, 0, none⟩ = some (.int .i64 C.who) := KC.cell 0
          have zC1 : w12.cell? ⟨w2.heap.size + 1 + 1, 1, none⟩ = some (.int .i64 C.kind) := KC.cell 1
          have zC2 : w12.cell? ⟨w2.heap.size + 1 + 1, 2, none⟩ = some (.int .i64 C.obj) := KC.cell 2
          have zC3 : w12.cell? ⟨w2.heap.size + 1 + 1, 3, none⟩ = some (.int .i64 C.a) := KC.cell 3
          have zC4 : w12.cell? ⟨w2.heap.size + 1 + 1, 4, none⟩ = some (.int .i64 C.b) := KC.cell 4
          have zC5 : w12.cell? ⟨w2.heap.size + 1 + 1, 5, none⟩ = some (.int .i64 C.val) := KC.cell 5
          have zC6 : w12.cell? ⟨w2.heap.size + 1 + 1, 6, none⟩ = some (.bool C.is) := KC.cell 6
          have zC7 : w12.cell? ⟨w2.heap.size + 1 + 1, 7, none⟩ = some (.int .i64 C.first) := KC.cell 7
          have zC8 : w12.cell? ⟨w2.heap.size + 1 + 1, 8, none⟩ = some (.int .i64 C.last) := KC.cell 8
          have zC9 : w12.cell? ⟨w2.heap.size + 1 + 1, 9, none⟩ = some (.int .i64 C.point) := KC.cell 9
          have zD0 : w12.cell? ⟨w2.heap.size + 1 + 1 + 1, 0, none⟩ = some (.int .i64 D.who) := KD.cell 0
          have zD1 : w12.cell? ⟨w2.heap.size + 1 + 1 + 1, 1, none⟩ = some (.int .i64 D.kind) := KD.cell 1
          have zD2 : w12.cell? ⟨w2.heap.size + 1 + 1 + 1, 2, none⟩ = some (.int .i64 D.obj) := KD.cell 2
          have zD3 : w12.cell? ⟨w2.heap.size + 1 + 1 + 1, 3, none⟩ = some (.int .i64 D.a) := KD.cell 3
          have zD4 : w12.cell? ⟨w2.heap.size + 1 + 1 + 1, 4, none⟩ = some (.int .i64 D.b) := KD.cell 4
          have zD5 : w12.cell? ⟨w2.heap.size + 1 + 1 + 1, 5, none⟩ = some (.int .i64 D.val) := KD.cell 5
          have zD6 : w12.cell? ⟨w2.heap.size + 1 + 1 + 1, 6, none⟩ = some (.bool D.is) := KD.cell 6
          have zD7 : w12.cell? ⟨w2.heap.size + 1 + 1 + 1, 7, none⟩ = some (.int .i64 D.first) := KD.cell 7
          have zD8 : w12.cell? ⟨w2.heap.size + 1 + 1 + 1, 8, none⟩ = some (.int .i64 D.last) := KD.cell 8
          have zD9 : w12.cell? ⟨w2.heap.size + 1 + 1 + 1, 9, none⟩ = some (.int .i64 D.point) := KD.cell 9
          go_wp2_with fail
          go_ret
          exact ⟨rfl, hB12⟩
        · subst hq
          go_wp2_with fail
          go_ret
          exact ⟨rfl, hB11⟩
end Go.Proofs.Ytedgliaablokcaa
