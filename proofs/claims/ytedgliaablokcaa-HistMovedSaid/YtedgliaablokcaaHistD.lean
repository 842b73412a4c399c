/-
  HIST: what is left of a row behind a sieve.
-/
import Derived.Test.YtedgliaablokcaaRows
import Derived.ProofKit
import Derived.Test.YtedgliaablokcaaHistC
namespace Go.Proofs.Ytedgliaablokcaa
open Go.ChangeShapes Go.WideShapes Go.ChangeAt Go.RowKit

/-- a slice of calls in memory of the call's own -/
def CallsPost (w : World) (l : List CallV) (e : Ending) (w' : World) : Prop := ∃ q cap, e = .returned (.slice q l.length cap) ∧ Hcs w' q l ∧ Below w.heap.size w w'

theorem filter_snoc (F : CallV → Bool) (l : List CallV) (k : Nat) (h : k < l.length) : (l.take (k + 1)).filter F = (l.take k).filter F ++ (if F l[k] = true then [l[k]] else []) := by
  rw [List.take_succ_eq_append_getElem h, List.filter_append]
  congr 1
  by_cases hf : F l[k] = true <;> simp [hf]

set_option maxRecDepth 100000 in
set_option maxHeartbeats 4000000 in
theorem sifted_any (F : CallV → Bool) (l : List CallV) (p : Option Addr) (cap : Nat) (sv : Array Value) (w : World) (h : Hcs w p l) (hl : l.length ≤ 1000000)
    (HP : Hid (∀ c wx, Below w.heap.size w wx → Calls Try.prog 22 #[.agg sv, .agg #[.int .i64 c.who, .int .i64 c.kind, .int .i64 c.obj, .int .i64 c.a, .int .i64 c.b, .int .i64 c.val, .bool c.is, .int .i64 c.first, .int .i64 c.last, .int .i64 c.point]] wx fun e w' => e = .returned (.bool (F c)) ∧ Below wx.heap.size wx w')) :
    Calls Try.prog 21 #[.slice p l.length cap, .func (Fn.func 22) #[.agg sv] #[]] w (CallsPost w (l.filter F)) := by
  obtain ⟨i0, hi0, hz0, hz1, hz2⟩ := info_parts call_info
  obtain ⟨n, hn⟩ : ∃ n, l.length = n := ⟨_, rfl⟩
  have HN := Lib.hid hn
  have HH := Lib.hid h
  rw [hn] at hl ⊢
  clear hn h
  go_enter Try.func21, Try.ntmps21
  go_wp2_with fail
  go_loopw [5, 10] (fun v i wr => ∃ k : Nat, i = .int .i64 k ∧ k ≤ n ∧ wr.ownsRow w.heap.size 30 10 v ((l.take k).filter F).length (hcV ((l.take k).filter F)) ∧ Below w.heap.size w wr) (fun _ i _ => n - (intOf i).toNat)
  case atStart => exact ⟨0, rfl, by omega, World.ownsRow_nil _ _ _ _, Below.refl _ _⟩
  case round =>
    obtain ⟨k, rfl, hk, hown, hb⟩ := hrel
    rename_i v wr
    obtain ⟨q, cq, rfl⟩ := own_slice hown
    obtain ⟨m, hm⟩ : ∃ m, ((l.take k).filter F).length = m := ⟨_, rfl⟩
    have hmk : m ≤ k := by
      rw [← hm]
      have := List.length_filter_le F (l.take k)
      have h2 := List.length_take_le k l
      omega
    rw [hm] at hown ⊢
    by_cases hlt : k < n
    · have hkl : k < l.length := by rw [HN.out]; exact hlt
      obtain ⟨b, off, rfl, hlb, hat⟩ := HH.out.at_ k hkl
      have hsn := filter_snoc F l k hkl
      obtain ⟨c, hc⟩ : ∃ c, l[k] = c := ⟨_, rfl⟩
      rw [hc] at hat hsn
      have hlb2 : b < wr.heap.size := Nat.lt_of_lt_of_le hlb hb.size
      have hat2 : HcAt wr b (off + k * 10) c := by
        obtain ⟨g0, g1, g2, g3, g4, g5, g6, g7, g8, g9⟩ := hat
        exact ⟨by rw [hb.cell (p := ⟨b, _, none⟩) hlb]; exact g0, by rw [hb.cell (p := ⟨b, _, none⟩) hlb]; exact g1, by rw [hb.cell (p := ⟨b, _, none⟩) hlb]; exact g2, by rw [hb.cell (p := ⟨b, _, none⟩) hlb]; exact g3, by rw [hb.cell (p := ⟨b, _, none⟩) hlb]; exact g4, by rw [hb.cell (p := ⟨b, _, none⟩) hlb]; exact g5, by rw [hb.cell (p := ⟨b, _, none⟩) hlb]; exact g6, by rw [hb.cell (p := ⟨b, _, none⟩) hlb]; exact g7, by rw [hb.cell (p := ⟨b, _, none⟩) hlb]; exact g8, by rw [hb.cell (p := ⟨b, _, none⟩) hlb]; exact g9⟩
      obtain ⟨g0, g1, g2, g3, g4, g5, g6, g7, g8, g9⟩ := hat2
      obtain ⟨f, hf⟩ : ∃ f, F c = f := ⟨_, rfl⟩
      rw [hf] at hsn
      have hP := HP.out c
      rw [hf] at hP
      obtain ⟨W, hW⟩ : ∃ W, W = wr.alloc (Obj.cells #[.int .i64 c.who, .int .i64 c.kind, .int .i64 c.obj, .int .i64 c.a, .int .i64 c.b, .int .i64 c.val, .bool c.is, .int .i64 c.first, .int .i64 c.last, .int .i64 c.point] 30) := ⟨_, rfl⟩
      have hBW : Below w.heap.size w W := by rw [hW]; exact hb.alloc hb.size _
      have hBox : Blk W wr.heap.size 30 #[.int .i64 c.who, .int .i64 c.kind, .int .i64 c.obj, .int .i64 c.a, .int .i64 c.b, .int .i64 c.val, .bool c.is, .int .i64 c.first, .int .i64 c.last, .int .i64 c.point] := by rw [hW]; exact Blk.made _ _ _
      have hown2 := hown.alloc (Obj.cells #[.int .i64 c.who, .int .i64 c.kind, .int .i64 c.obj, .int .i64 c.a, .int .i64 c.b, .int .i64 c.val, .bool c.is, .int .i64 c.first, .int .i64 c.last, .int .i64 c.point] 30)
      rw [← hW] at hown2
      have HOWN := Lib.hid hown2
      have HW := Lib.hid hW
      have HSN := Lib.hid hsn
      have HM := Lib.hid hm
      have HB := Lib.hid hb
      have HPC := Lib.hid (hP W hBW)
      have HBW := Lib.hid hBW
      have HBX := Lib.hid hBox
      clear hW hown hown2 hsn hm hb hP hBW hc hat hlb hlb2 hf hBox
      go_wp2_with fail
      rw [← HW.out]
      clear g0 g1 g2 g3 g4 g5 g6 g7 g8 g9
      have d0 : W.cell? ⟨wr.heap.size, 0, none⟩ = some (.int .i64 c.who) := HBX.out.cell 0
      have d1 : W.cell? ⟨wr.heap.size, 1, none⟩ = some (.int .i64 c.kind) := HBX.out.cell 1
      have d2 : W.cell? ⟨wr.heap.size, 2, none⟩ = some (.int .i64 c.obj) := HBX.out.cell 2
      have d3 : W.cell? ⟨wr.heap.size, 3, none⟩ = some (.int .i64 c.a) := HBX.out.cell 3
      have d4 : W.cell? ⟨wr.heap.size, 4, none⟩ = some (.int .i64 c.b) := HBX.out.cell 4
      have d5 : W.cell? ⟨wr.heap.size, 5, none⟩ = some (.int .i64 c.val) := HBX.out.cell 5
      have d6 : W.cell? ⟨wr.heap.size, 6, none⟩ = some (.bool c.is) := HBX.out.cell 6
      have d7 : W.cell? ⟨wr.heap.size, 7, none⟩ = some (.int .i64 c.first) := HBX.out.cell 7
      have d8 : W.cell? ⟨wr.heap.size, 8, none⟩ = some (.int .i64 c.last) := HBX.out.cell 8
      have d9 : W.cell? ⟨wr.heap.size, 9, none⟩ = some (.int .i64 c.point) := HBX.out.cell 9
      go_wp2_with fail
      refine HPC.out.mono ?_
      rintro e w2 ⟨rfl, hb2⟩
      clear d0 d1 d2 d3 d4 d5 d6 d7 d8 d9
      have hbx2 := HBX.out.later hb2
      have d0 : w2.cell? ⟨wr.heap.size, 0, none⟩ = some (.int .i64 c.who) := hbx2.cell 0
      have d1 : w2.cell? ⟨wr.heap.size, 1, none⟩ = some (.int .i64 c.kind) := hbx2.cell 1
      have d2 : w2.cell? ⟨wr.heap.size, 2, none⟩ = some (.int .i64 c.obj) := hbx2.cell 2
      have d3 : w2.cell? ⟨wr.heap.size, 3, none⟩ = some (.int .i64 c.a) := hbx2.cell 3
      have d4 : w2.cell? ⟨wr.heap.size, 4, none⟩ = some (.int .i64 c.b) := hbx2.cell 4
      have d5 : w2.cell? ⟨wr.heap.size, 5, none⟩ = some (.int .i64 c.val) := hbx2.cell 5
      have d6 : w2.cell? ⟨wr.heap.size, 6, none⟩ = some (.bool c.is) := hbx2.cell 6
      have d7 : w2.cell? ⟨wr.heap.size, 7, none⟩ = some (.int .i64 c.first) := hbx2.cell 7
      have d8 : w2.cell? ⟨wr.heap.size, 8, none⟩ = some (.int .i64 c.last) := hbx2.cell 8
      have d9 : w2.cell? ⟨wr.heap.size, 9, none⟩ = some (.int .i64 c.point) := hbx2.cell 9
      have hB2 := HBW.out.trans (hb2.mono HBW.out.size)
      have hown3 := own_below HOWN.out hb2
      cases f
      · have HB2 := Lib.hid hB2
        have HO3 := Lib.hid hown3
        clear hb2 hB2 hown3 hbx2
        go_wp2_with fail
        go_roundw
        case rel =>
          refine ⟨k + 1, by simp, by omega, ?_, HB2.out⟩
          rw [HSN.out, if_neg (by decide), List.append_nil, HM.out]
          exact HO3.out
        case measure => simp [intOf]; omega
      · obtain ⟨W3, hW3⟩ : ∃ W3, W3 = w2.alloc (Obj.cells #[.int .i64 c.who, .int .i64 c.kind, .int .i64 c.obj, .int .i64 c.a, .int .i64 c.b, .int .i64 c.val, .bool c.is, .int .i64 c.first, .int .i64 c.last, .int .i64 c.point] 30) := ⟨_, rfl⟩
        have hown4 := hown3.alloc (Obj.cells #[.int .i64 c.who, .int .i64 c.kind, .int .i64 c.obj, .int .i64 c.a, .int .i64 c.b, .int .i64 c.val, .bool c.is, .int .i64 c.first, .int .i64 c.last, .int .i64 c.point] 30)
        rw [← hW3] at hown4
        have hNew : Blk W3 w2.heap.size 30 #[.int .i64 c.who, .int .i64 c.kind, .int .i64 c.obj, .int .i64 c.a, .int .i64 c.b, .int .i64 c.val, .bool c.is, .int .i64 c.first, .int .i64 c.last, .int .i64 c.point] := by rw [hW3]; exact Blk.made _ _ _
        have hB3 : Below w.heap.size w W3 := by rw [hW3]; exact hB2.alloc hB2.size _
        have hnews : ∀ j u, (CallV.cells c)[j]? = some u → W3.cell? ((⟨w2.heap.size, 0, none⟩ : Addr).add j) = some u := by
          intro j u hu
          rw [addr_add, Nat.zero_add, hNew.cell]
          simpa [CallV.cells] using hu
        have HW3 := Lib.hid hW3
        have HNW := Lib.hid hnews
        have HB3 := Lib.hid hB3
        have HO4 := Lib.hid hown4
        have hlow : Hid (∀ i, (Value.slice q m cq).ownBlock = some i → w.heap.size ≤ i) := Lib.hid fun i hi => (HO4.out.lt i hi).1
        clear hW3 hnews hB3 hown4 hown3 hb2 hB2 hNew hbx2
        go_wp2_with (at_builtin; rw [← HW3.out]; refine wpList_append_own W3 rfl (.tmp 17) (.tmp 19) _ rfl w.heap.size 30 i0 _ 10 80 Try.underlying22 hi0 hz0 hz1 hz2 rfl (by omega) _ m _ rfl HO4.out ⟨w2.heap.size, 0, none⟩ 1 1 (CallV.cells c) rfl rfl HNW.out (by simp [CallV.cells, Value.oneCell']) (by unfold maxLen; omega) (by omega) HB3.out.size ?_; intro v4 w4 hown4 hg4 _)
        have hB4 : Below w.heap.size w w4 := below_gb HB3.out hg4 HB3.out.size hlow.out
        have hown5 : w4.ownsRow w.heap.size 30 10 v4 ((l.take (k + 1)).filter F).length (hcV ((l.take (k + 1)).filter F)) := by
          rw [HSN.out, if_pos trivial, List.length_append, HM.out, hcV_snoc]
          exact hown4
        have HB4 := Lib.hid hB4
        have HO5 := Lib.hid hown5
        clear hB4 hown5 hown4 hg4
        go_wp2_with fail
        go_roundw
        case rel => exact ⟨k + 1, by simp, by omega, HO5.out, HB4.out⟩
        case measure => simp [intOf]; omega
    · obtain rfl : k = n := by omega
      have htake : l.take k = l := List.take_of_length_le (by rw [HN.out]; omega)
      rw [htake] at hm
      rw [htake] at hown
      have HB := Lib.hid hb
      have HM := Lib.hid hm
      have HO := Lib.hid hown
      clear hb hm hown htake
      go_wp2_with fail
      go_ret
      refine ⟨q, cq, ?_, Hcs.of_own HO.out, HB.out⟩
      rw [HM.out]; rfl

end Go.Proofs.Ytedgliaablokcaa
