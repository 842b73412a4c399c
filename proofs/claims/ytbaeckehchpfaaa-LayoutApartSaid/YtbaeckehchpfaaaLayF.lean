/-
  LAYOUT: For, of a code of one map, into which one use puts, on two seats.
-/
import Derived.Test.YtbaeckehchpfaaaRows
import Derived.ProofKit
import Derived.Laws.EntriesVeiled
import Derived.Test.YtbaeckehchpfaaaLayJ
namespace Go.Proofs.Ytbaeckehchpfaaa
open Go.ChangeShapes Go.WideShapes Go.ChangeAt Go.RowKit

def useC : Array Value := #[.int .i64 0, .slice none 0 0, .int .i64 1, .int .i64 0, .int .i64 2, .int .i64 0, .int .i64 0, .int .i64 0, .int .i64 0, .bool false]

set_option maxRecDepth 100000 in
set_option maxHeartbeats 8000000 in
theorem for_shown (g : Nat) (w : World) (hU : Blk w g 52 useC) :
    Calls Try.prog 19 #[.agg #[.slice none 0 0, .slice none 0 0, .int .i64 1, .int .i64 0, .int .i64 0, .int .i64 0],
      .agg #[.int .i64 0, .int .i64 0, .slice none 0 0, .slice none 0 0, .slice none 0 0, .slice none 0 0, .slice (some ⟨g, 0, none⟩) 1 1, .slice none 0 0, .int .i64 0, .int .i64 0, .slice none 0 0], .int .i64 2] w
      fun e w' => e = .returned (.tuple #[.agg (confC 2 22 1 1 1 0 1 0 0), .int .i64 0]) ∧ Below w.heap.size w w' := by
  obtain ⟨V, hV⟩ : ∃ V, V = ((w.alloc (Obj.cells #[.slice none 0 0, .slice none 0 0, .int .i64 1, .int .i64 0, .int .i64 0, .int .i64 0] 42)).alloc (Obj.cells #[.int .i64 0, .int .i64 0, .slice none 0 0, .slice none 0 0, .slice none 0 0, .slice none 0 0, .slice (some ⟨g, 0, none⟩) 1 1, .slice none 0 0, .int .i64 0, .int .i64 0, .slice none 0 0] 48)).alloc (Obj.cells #[.int .i64 0, .int .i64 0, .int .i64 0, .int .i64 0, .int .i64 0, .int .i64 0, .int .i64 0, .int .i64 0, .int .i64 0] 23) := ⟨_, rfl⟩
  have hs : V.heap.size = w.heap.size + 3 := by rw [hV]; simp [go_sem]
  have hbV : Below w.heap.size w V := by rw [hV]; exact bel_alloc (bel_alloc (bel_alloc (Below.refl _ _) _) _) _
  have K0 : Blk V w.heap.size 42 #[.slice none 0 0, .slice none 0 0, .int .i64 1, .int .i64 0, .int .i64 0, .int .i64 0] := by rw [hV]; exact ((Blk.made w _ _).alloc _).alloc _
  have K1 : Blk V (w.heap.size + 1) 48 #[.int .i64 0, .int .i64 0, .slice none 0 0, .slice none 0 0, .slice none 0 0, .slice none 0 0, .slice (some ⟨g, 0, none⟩) 1 1, .slice none 0 0, .int .i64 0, .int .i64 0, .slice none 0 0] := by
    rw [hV]
    have := (Blk.made (w.alloc (Obj.cells #[.slice none 0 0, .slice none 0 0, .int .i64 1, .int .i64 0, .int .i64 0, .int .i64 0] 42)) 48 #[.int .i64 0, .int .i64 0, .slice none 0 0, .slice none 0 0, .slice none 0 0, .slice none 0 0, .slice (some ⟨g, 0, none⟩) 1 1, .slice none 0 0, .int .i64 0, .int .i64 0, .slice none 0 0]).alloc (Obj.cells #[.int .i64 0, .int .i64 0, .int .i64 0, .int .i64 0, .int .i64 0, .int .i64 0, .int .i64 0, .int .i64 0, .int .i64 0] 23)
    simpa [go_sem] using this
  have K2 : Blk V (w.heap.size + 2) 23 #[.int .i64 0, .int .i64 0, .int .i64 0, .int .i64 0, .int .i64 0, .int .i64 0, .int .i64 0, .int .i64 0, .int .i64 0] := by
    have h := heap_alloc_new ((w.alloc (Obj.cells #[.slice none 0 0, .slice none 0 0, .int .i64 1, .int .i64 0, .int .i64 0, .int .i64 0] 42)).alloc (Obj.cells #[.int .i64 0, .int .i64 0, .slice none 0 0, .slice none 0 0, .slice none 0 0, .slice none 0 0, .slice (some ⟨g, 0, none⟩) 1 1, .slice none 0 0, .int .i64 0, .int .i64 0, .slice none 0 0] 48)) (Obj.cells #[.int .i64 0, .int .i64 0, .int .i64 0, .int .i64 0, .int .i64 0, .int .i64 0, .int .i64 0, .int .i64 0, .int .i64 0] 23)
    rw [← hV] at h
    unfold Blk
    rw [← h]
    congr 1
    simp [go_sem]
  have KU : Blk V g 52 useC := hU.later hbV
  have hf : ∀ wx, Below V.heap.size V wx → wx.cell? ⟨w.heap.size, 1, none⟩ = some (.slice none 0 0) ∧ wx.cell? ⟨w.heap.size, 2, none⟩ = some (.int .i64 1) ∧ wx.cell? ⟨w.heap.size, 3, none⟩ = some (.int .i64 0) ∧ wx.cell? ⟨w.heap.size, 4, none⟩ = some (.int .i64 0)
      ∧ wx.cell? ⟨w.heap.size + 1, 6, none⟩ = some (.slice (some ⟨g, 0, none⟩) 1 1) ∧ wx.cell? ⟨w.heap.size + 1, 9, none⟩ = some (.int .i64 0)
      ∧ wx.cell? ⟨g, 0, none⟩ = some (.int .i64 0) ∧ wx.cell? ⟨g, 1, none⟩ = some (.slice none 0 0) ∧ wx.cell? ⟨g, 2, none⟩ = some (.int .i64 1) ∧ wx.cell? ⟨g, 3, none⟩ = some (.int .i64 0) ∧ wx.cell? ⟨g, 4, none⟩ = some (.int .i64 2) ∧ wx.cell? ⟨g, 5, none⟩ = some (.int .i64 0)
      ∧ wx.cell? ⟨g, 6, none⟩ = some (.int .i64 0) ∧ wx.cell? ⟨g, 7, none⟩ = some (.int .i64 0) ∧ wx.cell? ⟨g, 8, none⟩ = some (.int .i64 0) ∧ wx.cell? ⟨g, 9, none⟩ = some (.bool false) := fun wx hx => by
    have a := K0.later hx
    have b := K1.later hx
    have c := KU.later hx
    exact ⟨a.cell 1, a.cell 2, a.cell 3, a.cell 4, b.cell 6, b.cell 9, c.cell 0, c.cell 1, c.cell 2, c.cell 3, c.cell 4, c.cell 5, c.cell 6, c.cell 7, c.cell 8, c.cell 9⟩
  have HF := Lib.hid hf
  have HV := Lib.hid hV
  have HBV := Lib.hid hbV
  have HS := Lib.hid hs
  have HK2 := Lib.hid K2
  clear hf hV hbV hs K0 K1 K2 KU hU
  obtain ⟨c1, c2, c3, c4, e6, e9, u0, u1, u2, u3, u4, u5, u6, u7, u8, u9⟩ := HF.out V (Below.refl _ _)
  go_enter Try.func19, Try.ntmps19
  go_wp2_with fail
  rw [← HV.out]
  go_wp2_with fail
  clear c1 c2 c3 c4 e6 e9 u0 u1 u2 u3 u4 u5 u6 u7 u8 u9
  go_loopw [8, 9, 16] (fun p n i wr => Below V.heap.size V wr ∧ ((p = .int .i64 0 ∧ n = .int .i64 0 ∧ i = .int .i64 0) ∨ (p = .int .i64 1 ∧ n = .int .i64 1 ∧ i = .int .i64 1))) (fun _ _ i _ => 1 - (intOf i).toNat)
  case atStart => exact ⟨Below.refl _ _, .inl ⟨rfl, rfl, rfl⟩⟩
  case round =>
    obtain ⟨hb, ⟨rfl, rfl, rfl⟩ | ⟨rfl, rfl, rfl⟩⟩ := hrel
    · rename_i wr
      obtain ⟨c1, c2, c3, c4, e6, e9, u0, u1, u2, u3, u4, u5, u6, u7, u8, u9⟩ := HF.out wr hb
      go_wp2_with fail
      go_roundw
      case rel => exact ⟨((hb.alloc hb.size _)), .inr ⟨rfl, rfl, rfl⟩⟩
      case measure => simp [intOf]
    · rename_i wr
      obtain ⟨c1, c2, c3, c4, e6, e9, u0, u1, u2, u3, u4, u5, u6, u7, u8, u9⟩ := HF.out wr hb
      go_wp2_with fail
      clear c1 c2 c3 c4 e6 e9 u0 u1 u2 u3 u4 u5 u6 u7 u8 u9
      obtain ⟨W1, hW1⟩ : ∃ W1, W1 = wr.alloc (Obj.cells #[.int .i64 2, .int .i64 0, .int .i64 1, .int .i64 1, .int .i64 1, .int .i64 0, .int .i64 1, .int .i64 0, .int .i64 0] 23) := ⟨_, rfl⟩
      rw [← hW1]
      have N1 : Blk W1 wr.heap.size 23 #[.int .i64 2, .int .i64 0, .int .i64 1, .int .i64 1, .int .i64 1, .int .i64 0, .int .i64 1, .int .i64 0, .int .i64 0] := by rw [hW1]; exact Blk.made wr _ _
      have hb1 : Below V.heap.size V W1 := by rw [hW1]; exact hb.alloc hb.size _
      have hsz1 : W1.heap.size = wr.heap.size + 1 := by rw [hW1]; simp [go_sem]
      have hge : V.heap.size ≤ wr.heap.size := hb.size
      clear hW1
      go_loopw [75] (fun _ wx => wx = W1) (fun _ _ => 0)
      case atStart => exact rfl
      case round =>
        have hrel2 := hrel.symm
        clear hrel
        subst hrel2
        have n2 : W1.cell? ⟨wr.heap.size, 2, none⟩ = some (.int .i64 1) := N1.cell 2
        have n0 : W1.cell? ⟨wr.heap.size, 0, none⟩ = some (.int .i64 2) := N1.cell 0
        have n1 : W1.cell? ⟨wr.heap.size, 1, none⟩ = some (.int .i64 0) := N1.cell 1
        have n3 : W1.cell? ⟨wr.heap.size, 3, none⟩ = some (.int .i64 1) := N1.cell 3
        have n4 : W1.cell? ⟨wr.heap.size, 4, none⟩ = some (.int .i64 1) := N1.cell 4
        have n5 : W1.cell? ⟨wr.heap.size, 5, none⟩ = some (.int .i64 0) := N1.cell 5
        have n6 : W1.cell? ⟨wr.heap.size, 6, none⟩ = some (.int .i64 1) := N1.cell 6
        have n7 : W1.cell? ⟨wr.heap.size, 7, none⟩ = some (.int .i64 0) := N1.cell 7
        have n8 : W1.cell? ⟨wr.heap.size, 8, none⟩ = some (.int .i64 0) := N1.cell 8
        obtain ⟨c1, c2, c3, c4, e6, e9, u0, u1, u2, u3, u4, u5, u6, u7, u8, u9⟩ := HF.out W1 hb1
        go_wp2_with fail
        refine (may_yes 2 0 1 1 1 0 1 0 0 ⟨by omega, by omega, by omega, by omega, by omega, by omega, by omega, by omega, .inl rfl⟩ W1).mono ?_
        rintro e w3 ⟨rfl, hb3⟩
        have N3 := N1.later hb3
        have hb13 : Below V.heap.size V w3 := below_trans hb1 hb3
        clear c1 c2 c3 c4 e6 e9 u0 u1 u2 u3 u4 u5 u6 u7 u8 u9 n0 n1 n2 n3 n4 n5 n6 n7 n8
        obtain ⟨c1, c2, c3, c4, e6, e9, u0, u1, u2, u3, u4, u5, u6, u7, u8, u9⟩ := HF.out w3 hb13
        have n2 : w3.cell? ⟨wr.heap.size, 2, none⟩ = some (.int .i64 1) := N3.cell 2
        have n0 : w3.cell? ⟨wr.heap.size, 0, none⟩ = some (.int .i64 2) := N3.cell 0
        have n1 : w3.cell? ⟨wr.heap.size, 1, none⟩ = some (.int .i64 0) := N3.cell 1
        have n3 : w3.cell? ⟨wr.heap.size, 3, none⟩ = some (.int .i64 1) := N3.cell 3
        have n4 : w3.cell? ⟨wr.heap.size, 4, none⟩ = some (.int .i64 1) := N3.cell 4
        have n5 : w3.cell? ⟨wr.heap.size, 5, none⟩ = some (.int .i64 0) := N3.cell 5
        have n6 : w3.cell? ⟨wr.heap.size, 6, none⟩ = some (.int .i64 1) := N3.cell 6
        have n7 : w3.cell? ⟨wr.heap.size, 7, none⟩ = some (.int .i64 0) := N3.cell 7
        have n8 : w3.cell? ⟨wr.heap.size, 8, none⟩ = some (.int .i64 0) := N3.cell 8
        have fz := N3.free 1
        have KR := HK2.out.later hb13
        have k0 : w3.cell? ⟨w.heap.size + 1 + 1, 0, none⟩ = some (.int .i64 0) := KR.cell 0
        have k1 : w3.cell? ⟨w.heap.size + 1 + 1, 1, none⟩ = some (.int .i64 0) := KR.cell 1
        have k2 : w3.cell? ⟨w.heap.size + 1 + 1, 2, none⟩ = some (.int .i64 0) := KR.cell 2
        have k3 : w3.cell? ⟨w.heap.size + 1 + 1, 3, none⟩ = some (.int .i64 0) := KR.cell 3
        have k4 : w3.cell? ⟨w.heap.size + 1 + 1, 4, none⟩ = some (.int .i64 0) := KR.cell 4
        have k5 : w3.cell? ⟨w.heap.size + 1 + 1, 5, none⟩ = some (.int .i64 0) := KR.cell 5
        have k6 : w3.cell? ⟨w.heap.size + 1 + 1, 6, none⟩ = some (.int .i64 0) := KR.cell 6
        have k7 : w3.cell? ⟨w.heap.size + 1 + 1, 7, none⟩ = some (.int .i64 0) := KR.cell 7
        have k8 : w3.cell? ⟨w.heap.size + 1 + 1, 8, none⟩ = some (.int .i64 0) := KR.cell 8
        have kf : ∀ o, w3.frozen? ⟨w.heap.size + 1 + 1, o, none⟩ = false := fun o => KR.free o
        have hne : w.heap.size + 1 + 1 ≠ wr.heap.size := by have := HS.out; omega
        have hne2 : wr.heap.size ≠ w.heap.size + 1 + 1 := by have := HS.out; omega
        have hn3 : wr.heap.size ≠ w.heap.size := by have := HS.out; omega
        clear KR N3 hsz1 hge
        go_wp2_with fail
        have hlw : w.heap.size ≤ w.heap.size + 1 + 1 := by omega
        have hlr : w.heap.size ≤ wr.heap.size := by have := hb.size; have := HS.out; omega
        have hw3 : Below w.heap.size w w3 := HBV.out.trans (hb13.mono HBV.out.size)
        refine bodyPost_ret (v := .tuple #[.agg (confC 2 22 1 1 1 0 1 0 0), .int .i64 0]) ?_ rfl ⟨rfl, ?_⟩
        · clear hw3 hlw hlr hb13 hb1 hb hb3 N1 c1 c2 c3 c4 e6 e9 u0 u1 u2 u3 u4 u5 u6 u7 u8 u9
          simp [results, Try.results19, go_sem, confC, k0, k1, k2, k3, k4, k5, k6, k7, k8, hne, hne2]
        · exact (((((((((hw3.setCell hlr _).setCell hlw _).setCell hlw _).setCell hlw _).setCell hlw _).setCell hlw _).setCell hlw _).setCell hlw _).setCell hlw _).setCell hlw _
end Go.Proofs.Ytbaeckehchpfaaa
