/-
  HIST: Of, Seat, Upto.
-/
import Derived.Test.YtedgliaablokcaaRows
import Derived.ProofKit
import Derived.Test.YtedgliaablokcaaHistD
namespace Go.Proofs.Ytedgliaablokcaa
open Go.ChangeShapes Go.WideShapes Go.ChangeAt Go.RowKit

set_option maxHeartbeats 1000000 in
theorem hof_any (l : List CallV) (p : Option Addr) (cap : Nat) (kind obj : Int) (w : World) (h : Hcs w p l) (hl : l.length ≤ 1000000) :
    Calls Try.prog 11 #[.slice p l.length cap, .int .i64 kind, .int .i64 obj] w (CallsPost w (l.filter fun c => (kindOf c.kind == kind) && (c.obj == obj))) := by
  obtain ⟨F, hF⟩ : ∃ F : CallV → Bool, F = fun c => (kindOf c.kind == kind) && (c.obj == obj) := ⟨_, rfl⟩
  obtain ⟨m, hm⟩ : ∃ m, (l.filter F).length = m := ⟨_, rfl⟩
  obtain ⟨W, hW⟩ : ∃ W, W = ((((w.alloc (Obj.cells #[.int .i64 kind] 3)).alloc (Obj.cells #[.int .i64 obj] 3)).alloc (Obj.cells #[.func (Fn.func 18) #[] #[.pointer (some ⟨w.heap.size, 0, none⟩)], .func (Fn.func 20) #[] #[.pointer (some ⟨w.heap.size + 1, 0, none⟩)]] 47)).alloc (Obj.cells #[.slice (some ⟨w.heap.size + 1 + 1, 0, none⟩) 2 2] 51)) := ⟨_, rfl⟩
  have K0 : Blk W (w.heap.size) 3 #[.int .i64 kind] := by rw [hW]; exact ((((Blk.made w _ _).alloc _).alloc _).alloc _)
  have K1 : Blk W (w.heap.size + 1) 3 #[.int .i64 obj] := by rw [hW]; exact (((Blk.made1 w _ _ _).alloc _).alloc _)
  have KF : Blk W (w.heap.size + 1 + 1) 47 #[.func (Fn.func 18) #[] #[.pointer (some ⟨w.heap.size, 0, none⟩)], .func (Fn.func 20) #[] #[.pointer (some ⟨w.heap.size + 1, 0, none⟩)]] := by rw [hW]; exact (Blk.made2 w _ _ _ _).alloc _
  have hbW : Below w.heap.size w W := by rw [hW]; exact below_alloc4 w _ _ _ _
  have HP : Hid (∀ c wx, Below W.heap.size W wx → Calls Try.prog 22 #[.agg #[.slice (some ⟨w.heap.size + 1 + 1, 0, none⟩) 2 2], .agg #[.int .i64 c.who, .int .i64 c.kind, .int .i64 c.obj, .int .i64 c.a, .int .i64 c.b, .int .i64 c.val, .bool c.is, .int .i64 c.first, .int .i64 c.last, .int .i64 c.point]] wx fun e w' => e = .returned (.bool (F c)) ∧ Below wx.heap.size wx w') := by
    refine Lib.hid fun c wx hb => ?_
    rw [hF]
    exact passes2 c _ _ _ kind obj wx ((KF.later hb).cell 0) ((KF.later hb).cell 1) ((K0.later hb).cell 0) ((K1.later hb).cell 0)
  have HS := Lib.hid (sifted_any F l p cap #[.slice (some ⟨w.heap.size + 1 + 1, 0, none⟩) 2 2] W (h.later hbW) hl HP)
  rw [← hF]
  obtain ⟨n, hn⟩ : ∃ n, l.length = n := ⟨_, rfl⟩
  rw [hn] at HS
  have HM := Lib.hid hm
  have HW := Lib.hid hW
  have HB := Lib.hid hbW
  rw [hn]
  clear hF hm hW hbW h hl hn HP K0 K1 KF
  go_enter Try.func11, Try.ntmps11
  go_wp2_with fail
  rw [← HW.out]
  refine HS.out.mono ?_
  rintro e w2 ⟨q, cq, he, hq, hb⟩
  rw [HM.out] at he
  subst he
  have HQ := Lib.hid hq
  have HB2 := Lib.hid hb
  clear hq hb
  go_wp2_with fail
  go_ret
  exact ⟨q, cq, by rw [HM.out]; rfl, HQ.out, HB.out.trans (HB2.out.mono HB.out.size)⟩

set_option maxHeartbeats 1000000 in
theorem hseat_any (l : List CallV) (p : Option Addr) (cap : Nat) (who : Int) (w : World) (h : Hcs w p l) (hl : l.length ≤ 1000000) :
    Calls Try.prog 12 #[.slice p l.length cap, .int .i64 who] w (CallsPost w (l.filter fun c => c.who == who)) := by
  obtain ⟨F, hF⟩ : ∃ F : CallV → Bool, F = fun c => c.who == who := ⟨_, rfl⟩
  obtain ⟨m, hm⟩ : ∃ m, (l.filter F).length = m := ⟨_, rfl⟩
  obtain ⟨W, hW⟩ : ∃ W, W = (((w.alloc (Obj.cells #[.int .i64 who] 3)).alloc (Obj.cells #[.func (Fn.func 23) #[] #[.pointer (some ⟨w.heap.size, 0, none⟩)]] 47)).alloc (Obj.cells #[.slice (some ⟨w.heap.size + 1, 0, none⟩) 1 1] 51)) := ⟨_, rfl⟩
  have K0 : Blk W (w.heap.size) 3 #[.int .i64 who] := by rw [hW]; exact (((Blk.made w _ _).alloc _).alloc _)
  have KF : Blk W (w.heap.size + 1) 47 #[.func (Fn.func 23) #[] #[.pointer (some ⟨w.heap.size, 0, none⟩)]] := by rw [hW]; exact (Blk.made1 w _ _ _).alloc _
  have hbW : Below w.heap.size w W := by rw [hW]; exact below_alloc3 w _ _ _
  have HP : Hid (∀ c wx, Below W.heap.size W wx → Calls Try.prog 22 #[.agg #[.slice (some ⟨w.heap.size + 1, 0, none⟩) 1 1], .agg #[.int .i64 c.who, .int .i64 c.kind, .int .i64 c.obj, .int .i64 c.a, .int .i64 c.b, .int .i64 c.val, .bool c.is, .int .i64 c.first, .int .i64 c.last, .int .i64 c.point]] wx fun e w' => e = .returned (.bool (F c)) ∧ Below wx.heap.size wx w') := by
    refine Lib.hid fun c wx hb => ?_
    rw [hF]
    exact passesSeat c _ _ who wx ((KF.later hb).cell 0) ((K0.later hb).cell 0)
  have HS := Lib.hid (sifted_any F l p cap #[.slice (some ⟨w.heap.size + 1, 0, none⟩) 1 1] W (h.later hbW) hl HP)
  rw [← hF]
  obtain ⟨n, hn⟩ : ∃ n, l.length = n := ⟨_, rfl⟩
  rw [hn] at HS
  have HM := Lib.hid hm
  have HW := Lib.hid hW
  have HB := Lib.hid hbW
  rw [hn]
  clear hF hm hW hbW h hl hn HP K0 KF
  go_enter Try.func12, Try.ntmps12
  go_wp2_with fail
  rw [← HW.out]
  refine HS.out.mono ?_
  rintro e w2 ⟨q, cq, he, hq, hb⟩
  rw [HM.out] at he
  subst he
  have HQ := Lib.hid hq
  have HB2 := Lib.hid hb
  clear hq hb
  go_wp2_with fail
  go_ret
  exact ⟨q, cq, by rw [HM.out]; rfl, HQ.out, HB.out.trans (HB2.out.mono HB.out.size)⟩

set_option maxHeartbeats 1000000 in
theorem hupto_any (l : List CallV) (p : Option Addr) (cap : Nat) (step : Int) (w : World) (h : Hcs w p l) (hl : l.length ≤ 1000000) :
    Calls Try.prog 13 #[.slice p l.length cap, .int .i64 step] w (CallsPost w (l.filter fun c => decide (c.last ≤ step))) := by
  obtain ⟨F, hF⟩ : ∃ F : CallV → Bool, F = fun c => decide (c.last ≤ step) := ⟨_, rfl⟩
  obtain ⟨m, hm⟩ : ∃ m, (l.filter F).length = m := ⟨_, rfl⟩
  obtain ⟨W, hW⟩ : ∃ W, W = (((w.alloc (Obj.cells #[.int .i64 step] 3)).alloc (Obj.cells #[.func (Fn.func 24) #[] #[.pointer (some ⟨w.heap.size, 0, none⟩)]] 47)).alloc (Obj.cells #[.slice (some ⟨w.heap.size + 1, 0, none⟩) 1 1] 51)) := ⟨_, rfl⟩
  have K0 : Blk W (w.heap.size) 3 #[.int .i64 step] := by rw [hW]; exact (((Blk.made w _ _).alloc _).alloc _)
  have KF : Blk W (w.heap.size + 1) 47 #[.func (Fn.func 24) #[] #[.pointer (some ⟨w.heap.size, 0, none⟩)]] := by rw [hW]; exact (Blk.made1 w _ _ _).alloc _
  have hbW : Below w.heap.size w W := by rw [hW]; exact below_alloc3 w _ _ _
  have HP : Hid (∀ c wx, Below W.heap.size W wx → Calls Try.prog 22 #[.agg #[.slice (some ⟨w.heap.size + 1, 0, none⟩) 1 1], .agg #[.int .i64 c.who, .int .i64 c.kind, .int .i64 c.obj, .int .i64 c.a, .int .i64 c.b, .int .i64 c.val, .bool c.is, .int .i64 c.first, .int .i64 c.last, .int .i64 c.point]] wx fun e w' => e = .returned (.bool (F c)) ∧ Below wx.heap.size wx w') := by
    refine Lib.hid fun c wx hb => ?_
    rw [hF]
    exact passesUpto c _ _ step wx ((KF.later hb).cell 0) ((K0.later hb).cell 0)
  have HS := Lib.hid (sifted_any F l p cap #[.slice (some ⟨w.heap.size + 1, 0, none⟩) 1 1] W (h.later hbW) hl HP)
  rw [← hF]
  obtain ⟨n, hn⟩ : ∃ n, l.length = n := ⟨_, rfl⟩
  rw [hn] at HS
  have HM := Lib.hid hm
  have HW := Lib.hid hW
  have HB := Lib.hid hbW
  rw [hn]
  clear hF hm hW hbW h hl hn HP K0 KF
  go_enter Try.func13, Try.ntmps13
  go_wp2_with fail
  rw [← HW.out]
  refine HS.out.mono ?_
  rintro e w2 ⟨q, cq, he, hq, hb⟩
  rw [HM.out] at he
  subst he
  have HQ := Lib.hid hq
  have HB2 := Lib.hid hb
  clear hq hb
  go_wp2_with fail
  go_ret
  exact ⟨q, cq, by rw [HM.out]; rfl, HQ.out, HB.out.trans (HB2.out.mono HB.out.size)⟩

end Go.Proofs.Ytedgliaablokcaa
