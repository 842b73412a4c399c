/-
  OM: om.Behind, Before, Row, New.
-/
import Derived.Test.YtjpimaiogdckpaaOmG
import Derived.Test.YtjpimaiogdckpaaOmQ
import Derived.Test.YtjpimaiogdckpaaStep
namespace Go.Proofs.Ytjpimaiogdckpaa
open Go.ChangeShapes Go.WideShapes Go.ChangeAt Go.RowKit Go.Sort

/-- what Behind leaves -/
def BehPost (w : World) (L : List Int) (m : Nat) (y err : Int) (e : Ending) (w' : World) : Prop :=
  ∃ q cap, e = .returned (.tuple #[.agg #[.slice q m cap], .int .i64 y, .int .i64 err]) ∧ Nums w' q cap L ∧ Below w.heap.size w w'

theorem new_any (w : World) : Calls Try.prog 21 #[] w fun e w' => ∃ g, e = .returned (.agg #[.slice (some ⟨g, 0, none⟩) 1 1]) ∧ Nums w' (some ⟨g, 0, none⟩) 1 [0] ∧ Below w.heap.size w w' := by
  go_enter Try.func21, Try.ntmps21
  go_wp2_with fail
  obtain ⟨W, hW⟩ : ∃ W, W = (w.alloc (Obj.cells #[.slice (some ⟨w.heap.size + 1, 0, none⟩) 1 1] 54)).alloc (Obj.cells #[.int .i64 0] 3) := ⟨_, rfl⟩
  have K0 : Blk W w.heap.size 54 #[.slice (some ⟨w.heap.size + 1, 0, none⟩) 1 1] := by rw [hW]; exact (Blk.made w _ _).alloc _
  have K1 : Blk W (w.heap.size + 1) 3 #[.int .i64 0] := by
    rw [hW]
    have := Blk.made (w.alloc (Obj.cells #[.slice (some ⟨w.heap.size + 1, 0, none⟩) 1 1] 54)) 3 #[.int .i64 0]
    rw [World.size_alloc] at this
    exact this
  have hb : Below w.heap.size w W := by rw [hW]; exact ((Below.refl _ w).alloc (Nat.le_refl _) _).alloc (by simp) _
  have e0 := K0.cell 0
  rw [← hW]
  have hN : Nums W (some ⟨w.heap.size + 1, 0, none⟩) 1 [0] := Nums.of_blk K1 (by simp) (by simp) (by unfold maxLen; omega)
  clear hW K0 K1
  exact bodyPost_ret (v := .agg #[.slice (some ⟨w.heap.size + 1, 0, none⟩) 1 1]) (by simp [results, Try.results21, go_sem, e0]) rfl ⟨_, rfl, hN, hb⟩

set_option maxRecDepth 100000 in
set_option maxHeartbeats 4000000 in
theorem rowO_any (l : List Int) (n : Nat) (hl : l.length = n) (hrt : Rt l) (p : Option Addr) (c : Nat) (w : World) (h : Nums w p c l) :
    Calls Try.prog 23 #[.agg #[.slice p n c]] w (RowPost w l n) := by
  obtain ⟨W, hW⟩ : ∃ W, W = w.alloc (Obj.cells #[.slice p n c] 54) := ⟨_, rfl⟩
  have hb0 : Below w.heap.size w W := by rw [hW]; exact below_alloc1 _ _
  have K0 : Blk W w.heap.size 54 #[.slice p n c] := by rw [hW]; exact Blk.made _ _ _
  have hR := right_any l n hl (by have := hrt.2.1; omega) p c W (h.later hb0)
  rw [decide_eq_true hrt] at hR
  have HR := Lib.hid hR
  have HW := Lib.hid hW
  have HK := Lib.hid K0
  have HB := Lib.hid hb0
  have HN := Lib.hid h
  clear hW K0 hb0 hR h
  go_enter Try.func23, Try.ntmps23
  go_wp2_with fail
  rw [← HW.out]
  refine HR.out.mono ?_
  rintro e w1 ⟨rfl, hb1⟩
  have hbw : Below w.heap.size w w1 := HB.out.trans (hb1.mono HB.out.size)
  have c1 := (HK.out.later hb1).cell 0
  have HRW := Lib.hid (row_any l n hl (by have := hrt.1; omega) (by have := hrt.2.1; omega) hrt.2.2.1 hrt.2.2.2 p c w1 (HN.out.later hbw))
  have HBW := Lib.hid hbw
  clear hb1 hbw hrt hl
  go_wp2_with fail
  refine HRW.out.mono ?_
  rintro e w2 ⟨g, r, rfl, h1, h2, h3, h4⟩
  have H1 := Lib.hid h1
  have H2 := Lib.hid h2
  have H4 := Lib.hid h4
  clear h1 h2 h4
  go_wp2_with fail
  go_ret
  exact ⟨g, r, rfl, H1.out, H2.out, Nat.le_trans HBW.out.size h3, HBW.out.trans (H4.out.mono HBW.out.size)⟩

set_option maxRecDepth 100000 in
set_option maxHeartbeats 16000000 in
theorem behind_any (l : List Int) (n : Nat) (hl : l.length = n) (hrt : Rt l) (hn : n < 1000) (p : Option Addr) (c x : Nat) (hx : x < n) (w : World) (h : Nums w p c l) :
    Calls Try.prog 22 #[.agg #[.slice p n c], .int .i64 x] w (BehPost w (behL l x) (n + 1) n 0) := by
  obtain ⟨i0, hi0, hz0, hz1, hz2⟩ := info_parts intInfo
  have h0 : 0 < n := by omega
  obtain ⟨W, hW⟩ : ∃ W, W = (w.alloc (Obj.cells #[.slice p n c] 54)).alloc (Obj.cells #[.slice none 0 0] 54) := ⟨_, rfl⟩
  have hb0 : Below w.heap.size w W := by rw [hW]; exact below_alloc2 _ _ _
  have K0 : Blk W w.heap.size 54 #[.slice p n c] := by rw [hW]; exact (Blk.made _ _ _).alloc _
  have K1 : Blk W (w.heap.size + 1) 54 #[.slice none 0 0] := by
    rw [hW]
    have := Blk.made (w.alloc (Obj.cells #[.slice p n c] 54)) 54 #[.slice none 0 0]
    rwa [World.size_alloc] at this
  have hR := right_any l n hl (by omega) p c W (h.later hb0)
  rw [decide_eq_true hrt] at hR
  have HR := Lib.hid hR
  have HW := Lib.hid hW
  have HK0 := Lib.hid K0
  have HK1 := Lib.hid K1
  have HB := Lib.hid hb0
  have HN := Lib.hid h
  have HL := Lib.hid hl
  have HRT := Lib.hid hrt
  have hsW : w.heap.size + 1 < W.heap.size := K1.lt
  have g1 : decide ((x : Int) < 0) = false := by simp
  have g2 : decide ((n : Int) ≤ x) = false := by simp; omega
  have g3 : decide ((n : Int) = 1000) = false := by simp; omega
  have g4 : ((n : Int) == 1000) = false := by simp; omega
  obtain ⟨LL, hLL⟩ : ∃ L, behL l x = L := ⟨_, rfl⟩
  rw [hLL]
  have HLLb := Lib.hid hLL
  clear hW K0 K1 hb0 hR h hl hrt hLL
  go_enter Try.func22, Try.ntmps22
  go_wp2_with fail
  rw [← HW.out]
  refine HR.out.mono ?_
  rintro e w1 ⟨rfl, hb1⟩
  have c1 := (HK0.out.later hb1).cell 0
  have HB1 := Lib.hid hb1
  have HBW1 := Lib.hid (HB.out.trans (hb1.mono HB.out.size))
  have hs1 : W.heap.size ≤ w1.heap.size := hb1.size
  have HN1 := Lib.hid (HN.out.later HBW1.out)
  clear hb1
  obtain ⟨b0, off, rfl, -, hcell⟩ := HN1.out.block (by rw [HL.out]; exact h0)
  have HCL := Lib.hid (Try.slices_Clone_int b0 off n c l w1 (by rw [HL.out]; exact Nat.le_refl _) (by omega) (fun j hj => hcell j hj))
  clear hcell
  go_wp2_with fail
  refine HCL.out.mono ?_
  rintro e w2 ⟨v2, rfl, ho2, -, hb2⟩
  rw [List.take_of_length_le (by rw [HL.out]; exact Nat.le_refl _)] at ho2
  obtain ⟨base, hbase⟩ : ∃ b, w1.heap.size = b := ⟨_, rfl⟩
  rw [hbase] at ho2 hs1
  obtain ⟨g, cap, rfl, k1, k2, k3, k4, k5, k6, -⟩ := own_holds ho2 h0
  have hN2 := (Nums.of_own ho2).1
  have HA2 := Lib.hid (above_any l n HL.out (by omega) HRT.out.2.2.1 _ _ x hx w2 hN2)
  obtain ⟨a, ha⟩ : ∃ a, l.getD x 0 = a := ⟨_, rfl⟩
  have hca : w2.cell? ⟨g, x, none⟩ = some (.int .i64 a) := by
    obtain ⟨bb, oo, e1, -, e2⟩ := hN2.block (by rw [HL.out]; exact h0)
    simp only [Option.some.injEq, Addr.mk.injEq, and_true] at e1
    obtain ⟨rfl, rfl⟩ := e1
    have := e2 x (by rw [HL.out]; exact hx)
    rw [Nat.zero_add, ha] at this
    exact this
  rw [ha] at HA2
  have hra : 0 ≤ a ∧ a ≤ 1099511627776 := by rw [← ha]; exact HRT.out.2.2.1 _ (getD_mem (by rw [HL.out]; exact hx))
  have hab := abL_le HRT.out.2.2.1 hra
  obtain ⟨b, hbq⟩ : ∃ b, abL l a = b := ⟨_, rfl⟩
  rw [hbq] at HA2 hab
  have HB2 := Lib.hid hb2
  have HO := Lib.hid ho2
  have HBASE := Lib.hid hbase
  have HBW2 : Hid (Below w.heap.size w w2) := Lib.hid (HBW1.out.trans (hb2.mono HBW1.out.size))
  have HK2 := Lib.hid ((HK1.out.later HB1.out).later hb2)
  have hs2 : base ≤ w2.heap.size := by rw [← hbase]; exact hb2.size
  have HBQ := Lib.hid hbq
  have HAQ := Lib.hid ha
  obtain ⟨a1, ha1⟩ : ∃ z, a + 1 = z := ⟨_, rfl⟩
  have ewa : IntKind.i64.wrap a1 = a1 := by rw [IntKind.wrap_i64]; omega
  have i1 : (0 : Int) ≤ x := by omega
  have i2 : (x : Int) < n := by omega
  clear ho2 hN2 hb2 hbase k5 k6 hbq ha
  go_wp2_with fail
  refine HA2.out.mono ?_
  rintro e w3 ⟨rfl, rfl⟩
  have HBS : Hid (w.heap.size + 1 < base ∧ base ≤ w3.heap.size) := Lib.hid ⟨by omega, hs2⟩
  have HT : Hid (tight a b ↔ (b = a1 ∨ 1099511627776 < b)) := Lib.hid (by unfold tight; omega)
  by_cases hc1 : b = a1
  · have d1 : (b == a1) = true := by simpa using hc1
    have d2 : decide (b = a1) = true := by simpa using hc1
    have HTT : Hid (tight a b) := Lib.hid (HT.out.2 (.inl hc1))
    clear hc1
    go_wp2_with fail
    refine (anew_any l n HL.out HRT.out base g cap w3 hs2 HO.out).mono ?_
    rintro e w4 ⟨rfl, ho4, hb4⟩
    have hN4 := (Nums.of_own ho4).1
    have hrn := newL_rt HRT.out
    have hln : (newL l).length = n := by rw [newL_len]; exact HL.out
    obtain ⟨l', hl'⟩ : ∃ m, newL l = m := ⟨_, rfl⟩
    rw [hl'] at ho4 hN4 hrn hln
    have HL' := Lib.hid hl'
    have HA4 := Lib.hid (above_any l' n hln (by omega) hrn.2.2.1 _ _ x hx w4 hN4)
    obtain ⟨aa, haa⟩ : ∃ a, l'.getD x 0 = a := ⟨_, rfl⟩
    have hca4 : w4.cell? ⟨g, x, none⟩ = some (.int .i64 aa) := by
      obtain ⟨bb, oo, e1, -, e2⟩ := hN4.block (by rw [hln]; exact h0)
      simp only [Option.some.injEq, Addr.mk.injEq, and_true] at e1
      obtain ⟨rfl, rfl⟩ := e1
      have := e2 x (by rw [hln]; exact hx)
      rw [Nat.zero_add, haa] at this
      exact this
    rw [haa] at HA4
    have hra4 : 0 ≤ aa ∧ aa ≤ 1099511627776 := by rw [← haa]; exact hrn.2.2.1 _ (getD_mem (by rw [hln]; exact hx))
    have hab4 := abL_le hrn.2.2.1 hra4
    obtain ⟨bn, hbn⟩ : ∃ b, abL l' aa = b := ⟨_, rfl⟩
    rw [hbn] at HA4 hab4
    have HBQ4 := Lib.hid hbn
    have HAQ4 := Lib.hid haa
    have HBS4 : Hid (w.heap.size + 1 < base ∧ base ≤ w4.heap.size) := Lib.hid ⟨HBS.out.1, Nat.le_trans HBS.out.2 (by have := hb4.size; exact this)⟩
    have HBW4 : Hid (Below w.heap.size w w4) := Lib.hid (HBW2.out.trans (hb4.mono (by have := HBS.out.1; omega)))
    have HK4 := Lib.hid (HK2.out.under hb4 HBS.out.1)
    have HO4 := Lib.hid ho4
    have k24 : g < w4.heap.size := by
      rcases ho4.2 with ⟨h3, _⟩ | ⟨g8, c8, u8, h3, h4, h5, _⟩
      · cases h3
      · cases h3; exact (Array.getElem?_eq_some_iff.1 h5).1
    have hs24 := HBS4.out.2
    clear ho4 hN4 hrn hln hbn haa hb4 hl'
    clear hca hab hra HBS HBW2 HK2 HO k2 hs2
    go_wp2_with fail
    refine HA4.out.mono ?_
    rintro e w5 ⟨rfl, rfl⟩
    have HTT1 : Hid (l' ++ [halfway aa bn] = LL) := Lib.hid (by
      have := HLLb.out
      unfold behL at this
      rw [HAQ.out, HBQ.out, if_pos HTT.out, HL'.out, HAQ4.out, HBQ4.out] at this
      exact this)
    clear HA4 HA2 HCL HB2 HN1 HB1 HBW1 HT HTT HAQ HBQ HAQ4 HBQ4 HL' HLLb HRT HL
    obtain ⟨d, hd⟩ : ∃ d, bn - aa = d := ⟨_, rfl⟩
    obtain ⟨hf, hq2⟩ : ∃ q, d / 2 = q := ⟨_, rfl⟩
    have hd0 : 0 ≤ d := by omega
    have hq1 : d.tdiv 2 = hf := by rw [Int.tdiv_eq_ediv_of_nonneg hd0]; exact hq2
    obtain ⟨s, hs⟩ : ∃ s, aa + hf = s := ⟨_, rfl⟩
    have hhf : 0 ≤ hf ∧ hf ≤ d := by omega
    have ewd : IntKind.i64.wrap d = d := by rw [IntKind.wrap_i64]; omega
    have ewh : IntKind.i64.wrap hf = hf := by rw [IntKind.wrap_i64]; omega
    have ews : IntKind.i64.wrap s = s := by rw [IntKind.wrap_i64]; omega
    have hsv : halfway aa bn = s := by unfold halfway; rw [hd, hq2, hs]
    have HLL : Hid (l' ++ [s] = LL) := Lib.hid (by rw [← hsv]; exact HTT1.out)
    obtain ⟨wr, hwr⟩ : ∃ v, w5 = v := ⟨_, rfl⟩
    rw [hwr] at HBS4 hca4 HO4 HBW4 HK4 hs24 k24 ⊢
    have HO := HO4
    have HBS := HBS4
    have HBX : Hid (∀ w9 (o : Obj), (wr.drew.alloc o).grownBy w9 (some g) → Below base wr w9) := Lib.hid fun w9 o hg => ((Below.refl base wr).drew.alloc HBS.out.2 o).grown hg (by have := HBS.out.2; simp; omega) (fun j hj => by cases hj; exact k1)
    have HKB : Hid (∀ w9, Below base wr w9 → Blk w9 (w.heap.size + 1) 54 #[.slice none 0 0]) := Lib.hid fun w9 h9 => HK4.out.under h9 HBS.out.1
    have HBW := HBW4
    clear hsv HTT1
    go_wp2_with fail
    refine wp_region_noPanic ?_
    refine wp_region_any (by kernel_rfl) ?_
    change wpAny _ _ _ _ _ _ _ (World.drew _)
    refine wpAny_take (i := 0) (v := ?v22) rfl (by kernel_rfl) (by kernel_rfl) (by kernel_rfl) (fun _ _ _ h => h) (Or.inl ⟨by rfl, ?hy22⟩) ?rest22
    case hy22 => (intro w; go_simp; try with_reducible rfl)
    refine wpAny_take (i := 1) (v := ?v23) rfl (by kernel_rfl) (by kernel_rfl) (by kernel_rfl) (fun _ _ _ h => h) (Or.inl ⟨by rfl, ?hy23⟩) ?rest23
    case hy23 => (intro w; go_simp; try with_reducible rfl)
    refine wpAny_take (i := 2) (v := ?v24) rfl (by kernel_rfl) (by kernel_rfl) (by kernel_rfl) (fun _ _ _ h => h) (Or.inl ⟨by rfl, ?hy24⟩) ?rest24
    case hy24 => (intro w; go_simp; try with_reducible rfl)
    refine wpAny_take (i := 3) (v := ?v25) rfl (by kernel_rfl) (by kernel_rfl) (by kernel_rfl) (fun _ _ _ h => h) (Or.inl ⟨by rfl, ?hy25⟩) ?rest25
    case hy25 => (intro w; go_simp; try with_reducible rfl)
    refine wpAny_take (i := 5) (v := ?v26) rfl (by kernel_rfl) (by kernel_rfl) (by kernel_rfl) (fun _ _ _ h => h) (Or.inl ⟨by rfl, ?hy26⟩) ?rest26
    case hy26 => (intro w; go_simp; try with_reducible rfl)
    refine wpAny_take (i := 6) (v := ?v27) rfl (by kernel_rfl) (by kernel_rfl) (by kernel_rfl) (fun _ _ _ h => h) (Or.inl ⟨by rfl, ?hy27⟩) ?rest27
    case hy27 => (intro w; go_simp; try with_reducible rfl)
    refine wpAny_take (i := 7) (v := ?v28) rfl (by kernel_rfl) (by kernel_rfl) (by kernel_rfl) (fun _ _ _ h => h) (Or.inl ⟨by rfl, ?hy28⟩) ?rest28
    case hy28 => (intro w; go_simp; try with_reducible rfl)
    refine wpAny_take (i := 8) (v := ?v29) rfl (by kernel_rfl) (by kernel_rfl) (by kernel_rfl) (fun _ _ _ h => h) (Or.inl ⟨by rfl, ?hy29⟩) ?rest29
    case hy29 => (intro w; go_simp; try with_reducible rfl)
    refine wpAny_take (i := 16) (v := ?v30) rfl (by kernel_rfl) (by kernel_rfl) (by kernel_rfl) (fun _ _ _ h => h) (Or.inl ⟨by rfl, ?hy30⟩) ?rest30
    case hy30 => (intro w; go_simp; try with_reducible rfl)
    refine wpAny_ready (rs := [4, 9]) (by kernel_rfl) (by simp) (AllReady.cons rfl (fun K hK => ?_) (AllReady.cons rfl (fun K hK => ?_) AllReady.nil))
    · go_simp
      refine hK _ _ ?_
      clear hK K
      refine wpAny_ready (rs := [9]) (by kernel_rfl) (by simp) (AllReady.cons rfl (fun K hK => ?_) AllReady.nil)
      go_simp
      refine hK _ _ ?_
      clear hK K
      refine wpAny_take (i := 10) (v := ?v31) rfl (by kernel_rfl) (by kernel_rfl) (by kernel_rfl) (fun _ _ _ h => h) (Or.inl ⟨by rfl, ?hy31⟩) ?rest31
      case hy31 => (intro w; go_simp; try with_reducible rfl)
      refine wpAny_take (i := 11) (v := ?v32) rfl (by kernel_rfl) (by kernel_rfl) (by kernel_rfl) (fun _ _ _ h => h) (Or.inl ⟨by rfl, ?hy32⟩) ?rest32
      case hy32 => (intro w; go_simp; try with_reducible rfl)
      refine wpAny_take (i := 12) (v := ?v33) rfl (by kernel_rfl) (by kernel_rfl) (by kernel_rfl) (fun _ _ _ h => h) (Or.inl ⟨by rfl, ?hy33⟩) ?rest33
      case hy33 => (intro w; go_simp; try with_reducible rfl)
      refine wpAny_ready (rs := [13]) (by kernel_rfl) (by simp) (AllReady.cons rfl (fun K hK => ?_) AllReady.nil)
      go_simp
      refine hK _ _ ?_
      clear hK K
      refine any_append (i := 14) _ rfl (by kernel_rfl) rfl (.tmp 57) (.tmp 70) _ rfl base 3 i0 (.int .i64 0) 1 8 Try.underlying64 hi0 hz0 hz1 hz2 rfl (by decide) _ n _ rfl (own_below HO.out (by exact (Below.refl _ _).drew.alloc (Nat.le_refl _) _)) ⟨_, 0, none⟩ 1 1 [.int .i64 s] rfl rfl (cell_one_new _ _ _) (by simp [Value.oneCell']) (by unfold maxLen; omega) (by omega) (by have := HBS.out; simp; omega) ?_
      intro v9 w9 hown9 hg9 _ _
      obtain ⟨g9, cap9, rfl⟩ := ownsRow_succ hown9
      have hbl9 : Below base wr w9 := HBX.out _ _ hg9
      have B9 := HKB.out w9 hbl9
      have r9 := B9.cell 0
      have f9 := B9.free 0
      have HN9 : Hid (Nums (w9.setCell ⟨w.heap.size + 1, 0, none⟩ (.slice (some ⟨g9, 0, none⟩) (n + 1) cap9)) (some ⟨g9, 0, none⟩) cap9 LL) := Lib.hid (by
        rw [← HLL.out]
        have h1 := (Nums.of_own (xs := l' ++ [s]) (by simpa using hown9)).1
        refine h1.far _ _ _ (fun _ b' off e => ?_)
        injection e with e
        injection e with e
        have h2 := HBS.out
        rcases hown9.2 with ⟨h3, _⟩ | ⟨g8, c8, u8, h3, h4, _⟩
        · cases h3
        · cases h3; omega)
      have HB9 : Hid (Below w.heap.size w (w9.setCell ⟨w.heap.size + 1, 0, none⟩ (.slice (some ⟨g9, 0, none⟩) (n + 1) cap9))) := Lib.hid ((HBW.out.trans (hbl9.mono (by have := HBS.out; omega))).setCell (p := ⟨w.heap.size + 1, 0, none⟩) (Nat.le_succ _) _)
      have E9 := Lib.hid (B9.put 0 (.slice (some ⟨g9, 0, none⟩) (n + 1) cap9))
      clear hown9 hg9 hbl9 B9
      refine wpAny_take (i := 15) (v := ?v34) rfl (by kernel_rfl) (by kernel_rfl) (by kernel_rfl) (fun _ _ _ h => h) (Or.inl ⟨by rfl, ?hy34⟩) ?rest34
      case hy34 => (intro w; go_simp; try with_reducible rfl)
      refine wpAny_ready (rs := [17]) (by kernel_rfl) (by simp) (AllReady.cons rfl (fun K hK => ?_) AllReady.nil)
      go_simp
      refine hK _ _ ?_
      clear hK K
      refine wpAny_take (i := 18) (v := ?v35) rfl (by kernel_rfl) (by kernel_rfl) (by kernel_rfl) (fun _ _ _ h => h) (Or.inl ⟨by rfl, ?hy35⟩) ?rest35
      case hy35 => (intro w; go_simp; try with_reducible rfl)
      refine wpAny_take (i := 19) (v := ?v36) rfl (by kernel_rfl) (by kernel_rfl) (by kernel_rfl) (fun _ _ _ h => h) (Or.inl ⟨by rfl, ?hy36⟩) ?rest36
      case hy36 => (intro w; go_simp; try with_reducible rfl)
      refine wpAny_done (by kernel_rfl) ?_ _
      refine NoPanic.normal ?_
      go_wp2_with fail
      have e0 := E9.out.cell 0
      clear r9 f9
      exact bodyPost_ret (v := .tuple #[.agg #[.slice (some ⟨g9, 0, none⟩) (n + 1) cap9], .int .i64 n, .int .i64 0]) (by simp [results, Try.results22, go_sem, e0]) rfl ⟨_, _, rfl, HN9.out, HB9.out⟩
    · go_simp
      refine hK _ _ ?_
      clear hK K
      refine wpAny_take (i := 10) (v := ?v37) rfl (by kernel_rfl) (by kernel_rfl) (by kernel_rfl) (fun _ _ _ h => h) (Or.inl ⟨by rfl, ?hy37⟩) ?rest37
      case hy37 => (intro w; go_simp; try with_reducible rfl)
      refine wpAny_take (i := 11) (v := ?v38) rfl (by kernel_rfl) (by kernel_rfl) (by kernel_rfl) (fun _ _ _ h => h) (Or.inl ⟨by rfl, ?hy38⟩) ?rest38
      case hy38 => (intro w; go_simp; try with_reducible rfl)
      refine wpAny_ready (rs := [4]) (by kernel_rfl) (by simp) (AllReady.cons rfl (fun K hK => ?_) AllReady.nil)
      go_simp
      refine hK _ _ ?_
      clear hK K
      refine wpAny_take (i := 12) (v := ?v39) rfl (by kernel_rfl) (by kernel_rfl) (by kernel_rfl) (fun _ _ _ h => h) (Or.inl ⟨by rfl, ?hy39⟩) ?rest39
      case hy39 => (intro w; go_simp; try with_reducible rfl)
      refine wpAny_ready (rs := [13]) (by kernel_rfl) (by simp) (AllReady.cons rfl (fun K hK => ?_) AllReady.nil)
      go_simp
      refine hK _ _ ?_
      clear hK K
      refine any_append (i := 14) _ rfl (by kernel_rfl) rfl (.tmp 57) (.tmp 70) _ rfl base 3 i0 (.int .i64 0) 1 8 Try.underlying64 hi0 hz0 hz1 hz2 rfl (by decide) _ n _ rfl (own_below HO.out (by exact (Below.refl _ _).drew.alloc (Nat.le_refl _) _)) ⟨_, 0, none⟩ 1 1 [.int .i64 s] rfl rfl (cell_one_new _ _ _) (by simp [Value.oneCell']) (by unfold maxLen; omega) (by omega) (by have := HBS.out; simp; omega) ?_
      intro v9 w9 hown9 hg9 _ _
      obtain ⟨g9, cap9, rfl⟩ := ownsRow_succ hown9
      have hbl9 : Below base wr w9 := HBX.out _ _ hg9
      have B9 := HKB.out w9 hbl9
      have r9 := B9.cell 0
      have f9 := B9.free 0
      have HN9 : Hid (Nums (w9.setCell ⟨w.heap.size + 1, 0, none⟩ (.slice (some ⟨g9, 0, none⟩) (n + 1) cap9)) (some ⟨g9, 0, none⟩) cap9 LL) := Lib.hid (by
        rw [← HLL.out]
        have h1 := (Nums.of_own (xs := l' ++ [s]) (by simpa using hown9)).1
        refine h1.far _ _ _ (fun _ b' off e => ?_)
        injection e with e
        injection e with e
        have h2 := HBS.out
        rcases hown9.2 with ⟨h3, _⟩ | ⟨g8, c8, u8, h3, h4, _⟩
        · cases h3
        · cases h3; omega)
      have HB9 : Hid (Below w.heap.size w (w9.setCell ⟨w.heap.size + 1, 0, none⟩ (.slice (some ⟨g9, 0, none⟩) (n + 1) cap9))) := Lib.hid ((HBW.out.trans (hbl9.mono (by have := HBS.out; omega))).setCell (p := ⟨w.heap.size + 1, 0, none⟩) (Nat.le_succ _) _)
      have E9 := Lib.hid (B9.put 0 (.slice (some ⟨g9, 0, none⟩) (n + 1) cap9))
      clear hown9 hg9 hbl9 B9
      refine wpAny_take (i := 15) (v := ?v40) rfl (by kernel_rfl) (by kernel_rfl) (by kernel_rfl) (fun _ _ _ h => h) (Or.inl ⟨by rfl, ?hy40⟩) ?rest40
      case hy40 => (intro w; go_simp; try with_reducible rfl)
      refine wpAny_ready (rs := [17]) (by kernel_rfl) (by simp) (AllReady.cons rfl (fun K hK => ?_) AllReady.nil)
      go_simp
      refine hK _ _ ?_
      clear hK K
      refine wpAny_take (i := 18) (v := ?v41) rfl (by kernel_rfl) (by kernel_rfl) (by kernel_rfl) (fun _ _ _ h => h) (Or.inl ⟨by rfl, ?hy41⟩) ?rest41
      case hy41 => (intro w; go_simp; try with_reducible rfl)
      refine wpAny_take (i := 19) (v := ?v42) rfl (by kernel_rfl) (by kernel_rfl) (by kernel_rfl) (fun _ _ _ h => h) (Or.inl ⟨by rfl, ?hy42⟩) ?rest42
      case hy42 => (intro w; go_simp; try with_reducible rfl)
      refine wpAny_done (by kernel_rfl) ?_ _
      refine NoPanic.normal ?_
      go_wp2_with fail
      have e0 := E9.out.cell 0
      clear r9 f9
      exact bodyPost_ret (v := .tuple #[.agg #[.slice (some ⟨g9, 0, none⟩) (n + 1) cap9], .int .i64 n, .int .i64 0]) (by simp [results, Try.results22, go_sem, e0]) rfl ⟨_, _, rfl, HN9.out, HB9.out⟩
  · have d1 : (b == a1) = false := by simpa using hc1
    have d2 : decide (b = a1) = false := by simpa using hc1
    by_cases hc2 : 1099511627776 < b
    · have d3 : decide (1099511627776 < b) = true := by simpa using hc2
      have HTT : Hid (tight a b) := Lib.hid (HT.out.2 (.inr hc2))
      clear hc1 hc2
      go_wp2_with fail
      refine (anew_any l n HL.out HRT.out base g cap w3 hs2 HO.out).mono ?_
      rintro e w4 ⟨rfl, ho4, hb4⟩
      have hN4 := (Nums.of_own ho4).1
      have hrn := newL_rt HRT.out
      have hln : (newL l).length = n := by rw [newL_len]; exact HL.out
      obtain ⟨l', hl'⟩ : ∃ m, newL l = m := ⟨_, rfl⟩
      rw [hl'] at ho4 hN4 hrn hln
      have HL' := Lib.hid hl'
      have HA4 := Lib.hid (above_any l' n hln (by omega) hrn.2.2.1 _ _ x hx w4 hN4)
      obtain ⟨aa, haa⟩ : ∃ a, l'.getD x 0 = a := ⟨_, rfl⟩
      have hca4 : w4.cell? ⟨g, x, none⟩ = some (.int .i64 aa) := by
        obtain ⟨bb, oo, e1, -, e2⟩ := hN4.block (by rw [hln]; exact h0)
        simp only [Option.some.injEq, Addr.mk.injEq, and_true] at e1
        obtain ⟨rfl, rfl⟩ := e1
        have := e2 x (by rw [hln]; exact hx)
        rw [Nat.zero_add, haa] at this
        exact this
      rw [haa] at HA4
      have hra4 : 0 ≤ aa ∧ aa ≤ 1099511627776 := by rw [← haa]; exact hrn.2.2.1 _ (getD_mem (by rw [hln]; exact hx))
      have hab4 := abL_le hrn.2.2.1 hra4
      obtain ⟨bn, hbn⟩ : ∃ b, abL l' aa = b := ⟨_, rfl⟩
      rw [hbn] at HA4 hab4
      have HBQ4 := Lib.hid hbn
      have HAQ4 := Lib.hid haa
      have HBS4 : Hid (w.heap.size + 1 < base ∧ base ≤ w4.heap.size) := Lib.hid ⟨HBS.out.1, Nat.le_trans HBS.out.2 (by have := hb4.size; exact this)⟩
      have HBW4 : Hid (Below w.heap.size w w4) := Lib.hid (HBW2.out.trans (hb4.mono (by have := HBS.out.1; omega)))
      have HK4 := Lib.hid (HK2.out.under hb4 HBS.out.1)
      have HO4 := Lib.hid ho4
      have k24 : g < w4.heap.size := by
        rcases ho4.2 with ⟨h3, _⟩ | ⟨g8, c8, u8, h3, h4, h5, _⟩
        · cases h3
        · cases h3; exact (Array.getElem?_eq_some_iff.1 h5).1
      have hs24 := HBS4.out.2
      clear ho4 hN4 hrn hln hbn haa hb4 hl'
      clear hca hab hra HBS HBW2 HK2 HO k2 hs2
      go_wp2_with fail
      refine HA4.out.mono ?_
      rintro e w5 ⟨rfl, rfl⟩
      have HTT1 : Hid (l' ++ [halfway aa bn] = LL) := Lib.hid (by
        have := HLLb.out
        unfold behL at this
        rw [HAQ.out, HBQ.out, if_pos HTT.out, HL'.out, HAQ4.out, HBQ4.out] at this
        exact this)
      clear HA4 HA2 HCL HB2 HN1 HB1 HBW1 HT HTT HAQ HBQ HAQ4 HBQ4 HL' HLLb HRT HL
      obtain ⟨d, hd⟩ : ∃ d, bn - aa = d := ⟨_, rfl⟩
      obtain ⟨hf, hq2⟩ : ∃ q, d / 2 = q := ⟨_, rfl⟩
      have hd0 : 0 ≤ d := by omega
      have hq1 : d.tdiv 2 = hf := by rw [Int.tdiv_eq_ediv_of_nonneg hd0]; exact hq2
      obtain ⟨s, hs⟩ : ∃ s, aa + hf = s := ⟨_, rfl⟩
      have hhf : 0 ≤ hf ∧ hf ≤ d := by omega
      have ewd : IntKind.i64.wrap d = d := by rw [IntKind.wrap_i64]; omega
      have ewh : IntKind.i64.wrap hf = hf := by rw [IntKind.wrap_i64]; omega
      have ews : IntKind.i64.wrap s = s := by rw [IntKind.wrap_i64]; omega
      have hsv : halfway aa bn = s := by unfold halfway; rw [hd, hq2, hs]
      have HLL : Hid (l' ++ [s] = LL) := Lib.hid (by rw [← hsv]; exact HTT1.out)
      obtain ⟨wr, hwr⟩ : ∃ v, w5 = v := ⟨_, rfl⟩
      rw [hwr] at HBS4 hca4 HO4 HBW4 HK4 hs24 k24 ⊢
      have HO := HO4
      have HBS := HBS4
      have HBX : Hid (∀ w9 (o : Obj), (wr.drew.alloc o).grownBy w9 (some g) → Below base wr w9) := Lib.hid fun w9 o hg => ((Below.refl base wr).drew.alloc HBS.out.2 o).grown hg (by have := HBS.out.2; simp; omega) (fun j hj => by cases hj; exact k1)
      have HKB : Hid (∀ w9, Below base wr w9 → Blk w9 (w.heap.size + 1) 54 #[.slice none 0 0]) := Lib.hid fun w9 h9 => HK4.out.under h9 HBS.out.1
      have HBW := HBW4
      clear hsv HTT1
      go_wp2_with fail
      refine wp_region_noPanic ?_
      refine wp_region_any (by kernel_rfl) ?_
      change wpAny _ _ _ _ _ _ _ (World.drew _)
      refine wpAny_take (i := 0) (v := ?v43) rfl (by kernel_rfl) (by kernel_rfl) (by kernel_rfl) (fun _ _ _ h => h) (Or.inl ⟨by rfl, ?hy43⟩) ?rest43
      case hy43 => (intro w; go_simp; try with_reducible rfl)
      refine wpAny_take (i := 1) (v := ?v44) rfl (by kernel_rfl) (by kernel_rfl) (by kernel_rfl) (fun _ _ _ h => h) (Or.inl ⟨by rfl, ?hy44⟩) ?rest44
      case hy44 => (intro w; go_simp; try with_reducible rfl)
      refine wpAny_take (i := 2) (v := ?v45) rfl (by kernel_rfl) (by kernel_rfl) (by kernel_rfl) (fun _ _ _ h => h) (Or.inl ⟨by rfl, ?hy45⟩) ?rest45
      case hy45 => (intro w; go_simp; try with_reducible rfl)
      refine wpAny_take (i := 3) (v := ?v46) rfl (by kernel_rfl) (by kernel_rfl) (by kernel_rfl) (fun _ _ _ h => h) (Or.inl ⟨by rfl, ?hy46⟩) ?rest46
      case hy46 => (intro w; go_simp; try with_reducible rfl)
      refine wpAny_take (i := 5) (v := ?v47) rfl (by kernel_rfl) (by kernel_rfl) (by kernel_rfl) (fun _ _ _ h => h) (Or.inl ⟨by rfl, ?hy47⟩) ?rest47
      case hy47 => (intro w; go_simp; try with_reducible rfl)
      refine wpAny_take (i := 6) (v := ?v48) rfl (by kernel_rfl) (by kernel_rfl) (by kernel_rfl) (fun _ _ _ h => h) (Or.inl ⟨by rfl, ?hy48⟩) ?rest48
      case hy48 => (intro w; go_simp; try with_reducible rfl)
      refine wpAny_take (i := 7) (v := ?v49) rfl (by kernel_rfl) (by kernel_rfl) (by kernel_rfl) (fun _ _ _ h => h) (Or.inl ⟨by rfl, ?hy49⟩) ?rest49
      case hy49 => (intro w; go_simp; try with_reducible rfl)
      refine wpAny_take (i := 8) (v := ?v50) rfl (by kernel_rfl) (by kernel_rfl) (by kernel_rfl) (fun _ _ _ h => h) (Or.inl ⟨by rfl, ?hy50⟩) ?rest50
      case hy50 => (intro w; go_simp; try with_reducible rfl)
      refine wpAny_take (i := 16) (v := ?v51) rfl (by kernel_rfl) (by kernel_rfl) (by kernel_rfl) (fun _ _ _ h => h) (Or.inl ⟨by rfl, ?hy51⟩) ?rest51
      case hy51 => (intro w; go_simp; try with_reducible rfl)
      refine wpAny_ready (rs := [4, 9]) (by kernel_rfl) (by simp) (AllReady.cons rfl (fun K hK => ?_) (AllReady.cons rfl (fun K hK => ?_) AllReady.nil))
      · go_simp
        refine hK _ _ ?_
        clear hK K
        refine wpAny_ready (rs := [9]) (by kernel_rfl) (by simp) (AllReady.cons rfl (fun K hK => ?_) AllReady.nil)
        go_simp
        refine hK _ _ ?_
        clear hK K
        refine wpAny_take (i := 10) (v := ?v52) rfl (by kernel_rfl) (by kernel_rfl) (by kernel_rfl) (fun _ _ _ h => h) (Or.inl ⟨by rfl, ?hy52⟩) ?rest52
        case hy52 => (intro w; go_simp; try with_reducible rfl)
        refine wpAny_take (i := 11) (v := ?v53) rfl (by kernel_rfl) (by kernel_rfl) (by kernel_rfl) (fun _ _ _ h => h) (Or.inl ⟨by rfl, ?hy53⟩) ?rest53
        case hy53 => (intro w; go_simp; try with_reducible rfl)
        refine wpAny_take (i := 12) (v := ?v54) rfl (by kernel_rfl) (by kernel_rfl) (by kernel_rfl) (fun _ _ _ h => h) (Or.inl ⟨by rfl, ?hy54⟩) ?rest54
        case hy54 => (intro w; go_simp; try with_reducible rfl)
        refine wpAny_ready (rs := [13]) (by kernel_rfl) (by simp) (AllReady.cons rfl (fun K hK => ?_) AllReady.nil)
        go_simp
        refine hK _ _ ?_
        clear hK K
        refine any_append (i := 14) _ rfl (by kernel_rfl) rfl (.tmp 57) (.tmp 70) _ rfl base 3 i0 (.int .i64 0) 1 8 Try.underlying64 hi0 hz0 hz1 hz2 rfl (by decide) _ n _ rfl (own_below HO.out (by exact (Below.refl _ _).drew.alloc (Nat.le_refl _) _)) ⟨_, 0, none⟩ 1 1 [.int .i64 s] rfl rfl (cell_one_new _ _ _) (by simp [Value.oneCell']) (by unfold maxLen; omega) (by omega) (by have := HBS.out; simp; omega) ?_
        intro v9 w9 hown9 hg9 _ _
        obtain ⟨g9, cap9, rfl⟩ := ownsRow_succ hown9
        have hbl9 : Below base wr w9 := HBX.out _ _ hg9
        have B9 := HKB.out w9 hbl9
        have r9 := B9.cell 0
        have f9 := B9.free 0
        have HN9 : Hid (Nums (w9.setCell ⟨w.heap.size + 1, 0, none⟩ (.slice (some ⟨g9, 0, none⟩) (n + 1) cap9)) (some ⟨g9, 0, none⟩) cap9 LL) := Lib.hid (by
          rw [← HLL.out]
          have h1 := (Nums.of_own (xs := l' ++ [s]) (by simpa using hown9)).1
          refine h1.far _ _ _ (fun _ b' off e => ?_)
          injection e with e
          injection e with e
          have h2 := HBS.out
          rcases hown9.2 with ⟨h3, _⟩ | ⟨g8, c8, u8, h3, h4, _⟩
          · cases h3
          · cases h3; omega)
        have HB9 : Hid (Below w.heap.size w (w9.setCell ⟨w.heap.size + 1, 0, none⟩ (.slice (some ⟨g9, 0, none⟩) (n + 1) cap9))) := Lib.hid ((HBW.out.trans (hbl9.mono (by have := HBS.out; omega))).setCell (p := ⟨w.heap.size + 1, 0, none⟩) (Nat.le_succ _) _)
        have E9 := Lib.hid (B9.put 0 (.slice (some ⟨g9, 0, none⟩) (n + 1) cap9))
        clear hown9 hg9 hbl9 B9
        refine wpAny_take (i := 15) (v := ?v55) rfl (by kernel_rfl) (by kernel_rfl) (by kernel_rfl) (fun _ _ _ h => h) (Or.inl ⟨by rfl, ?hy55⟩) ?rest55
        case hy55 => (intro w; go_simp; try with_reducible rfl)
        refine wpAny_ready (rs := [17]) (by kernel_rfl) (by simp) (AllReady.cons rfl (fun K hK => ?_) AllReady.nil)
        go_simp
        refine hK _ _ ?_
        clear hK K
        refine wpAny_take (i := 18) (v := ?v56) rfl (by kernel_rfl) (by kernel_rfl) (by kernel_rfl) (fun _ _ _ h => h) (Or.inl ⟨by rfl, ?hy56⟩) ?rest56
        case hy56 => (intro w; go_simp; try with_reducible rfl)
        refine wpAny_take (i := 19) (v := ?v57) rfl (by kernel_rfl) (by kernel_rfl) (by kernel_rfl) (fun _ _ _ h => h) (Or.inl ⟨by rfl, ?hy57⟩) ?rest57
        case hy57 => (intro w; go_simp; try with_reducible rfl)
        refine wpAny_done (by kernel_rfl) ?_ _
        refine NoPanic.normal ?_
        go_wp2_with fail
        have e0 := E9.out.cell 0
        clear r9 f9
        exact bodyPost_ret (v := .tuple #[.agg #[.slice (some ⟨g9, 0, none⟩) (n + 1) cap9], .int .i64 n, .int .i64 0]) (by simp [results, Try.results22, go_sem, e0]) rfl ⟨_, _, rfl, HN9.out, HB9.out⟩
      · go_simp
        refine hK _ _ ?_
        clear hK K
        refine wpAny_take (i := 10) (v := ?v58) rfl (by kernel_rfl) (by kernel_rfl) (by kernel_rfl) (fun _ _ _ h => h) (Or.inl ⟨by rfl, ?hy58⟩) ?rest58
        case hy58 => (intro w; go_simp; try with_reducible rfl)
        refine wpAny_take (i := 11) (v := ?v59) rfl (by kernel_rfl) (by kernel_rfl) (by kernel_rfl) (fun _ _ _ h => h) (Or.inl ⟨by rfl, ?hy59⟩) ?rest59
        case hy59 => (intro w; go_simp; try with_reducible rfl)
        refine wpAny_ready (rs := [4]) (by kernel_rfl) (by simp) (AllReady.cons rfl (fun K hK => ?_) AllReady.nil)
        go_simp
        refine hK _ _ ?_
        clear hK K
        refine wpAny_take (i := 12) (v := ?v60) rfl (by kernel_rfl) (by kernel_rfl) (by kernel_rfl) (fun _ _ _ h => h) (Or.inl ⟨by rfl, ?hy60⟩) ?rest60
        case hy60 => (intro w; go_simp; try with_reducible rfl)
        refine wpAny_ready (rs := [13]) (by kernel_rfl) (by simp) (AllReady.cons rfl (fun K hK => ?_) AllReady.nil)
        go_simp
        refine hK _ _ ?_
        clear hK K
        refine any_append (i := 14) _ rfl (by kernel_rfl) rfl (.tmp 57) (.tmp 70) _ rfl base 3 i0 (.int .i64 0) 1 8 Try.underlying64 hi0 hz0 hz1 hz2 rfl (by decide) _ n _ rfl (own_below HO.out (by exact (Below.refl _ _).drew.alloc (Nat.le_refl _) _)) ⟨_, 0, none⟩ 1 1 [.int .i64 s] rfl rfl (cell_one_new _ _ _) (by simp [Value.oneCell']) (by unfold maxLen; omega) (by omega) (by have := HBS.out; simp; omega) ?_
        intro v9 w9 hown9 hg9 _ _
        obtain ⟨g9, cap9, rfl⟩ := ownsRow_succ hown9
        have hbl9 : Below base wr w9 := HBX.out _ _ hg9
        have B9 := HKB.out w9 hbl9
        have r9 := B9.cell 0
        have f9 := B9.free 0
        have HN9 : Hid (Nums (w9.setCell ⟨w.heap.size + 1, 0, none⟩ (.slice (some ⟨g9, 0, none⟩) (n + 1) cap9)) (some ⟨g9, 0, none⟩) cap9 LL) := Lib.hid (by
          rw [← HLL.out]
          have h1 := (Nums.of_own (xs := l' ++ [s]) (by simpa using hown9)).1
          refine h1.far _ _ _ (fun _ b' off e => ?_)
          injection e with e
          injection e with e
          have h2 := HBS.out
          rcases hown9.2 with ⟨h3, _⟩ | ⟨g8, c8, u8, h3, h4, _⟩
          · cases h3
          · cases h3; omega)
        have HB9 : Hid (Below w.heap.size w (w9.setCell ⟨w.heap.size + 1, 0, none⟩ (.slice (some ⟨g9, 0, none⟩) (n + 1) cap9))) := Lib.hid ((HBW.out.trans (hbl9.mono (by have := HBS.out; omega))).setCell (p := ⟨w.heap.size + 1, 0, none⟩) (Nat.le_succ _) _)
        have E9 := Lib.hid (B9.put 0 (.slice (some ⟨g9, 0, none⟩) (n + 1) cap9))
        clear hown9 hg9 hbl9 B9
        refine wpAny_take (i := 15) (v := ?v61) rfl (by kernel_rfl) (by kernel_rfl) (by kernel_rfl) (fun _ _ _ h => h) (Or.inl ⟨by rfl, ?hy61⟩) ?rest61
        case hy61 => (intro w; go_simp; try with_reducible rfl)
        refine wpAny_ready (rs := [17]) (by kernel_rfl) (by simp) (AllReady.cons rfl (fun K hK => ?_) AllReady.nil)
        go_simp
        refine hK _ _ ?_
        clear hK K
        refine wpAny_take (i := 18) (v := ?v62) rfl (by kernel_rfl) (by kernel_rfl) (by kernel_rfl) (fun _ _ _ h => h) (Or.inl ⟨by rfl, ?hy62⟩) ?rest62
        case hy62 => (intro w; go_simp; try with_reducible rfl)
        refine wpAny_take (i := 19) (v := ?v63) rfl (by kernel_rfl) (by kernel_rfl) (by kernel_rfl) (fun _ _ _ h => h) (Or.inl ⟨by rfl, ?hy63⟩) ?rest63
        case hy63 => (intro w; go_simp; try with_reducible rfl)
        refine wpAny_done (by kernel_rfl) ?_ _
        refine NoPanic.normal ?_
        go_wp2_with fail
        have e0 := E9.out.cell 0
        clear r9 f9
        exact bodyPost_ret (v := .tuple #[.agg #[.slice (some ⟨g9, 0, none⟩) (n + 1) cap9], .int .i64 n, .int .i64 0]) (by simp [results, Try.results22, go_sem, e0]) rfl ⟨_, _, rfl, HN9.out, HB9.out⟩
    · have d3 : decide (1099511627776 < b) = false := by simpa using hc2
      have HTT : Hid (¬ tight a b) := Lib.hid (fun h => (HT.out.1 h).elim hc1 hc2)
      clear hc1
      obtain ⟨d, hd⟩ : ∃ d, b - a = d := ⟨_, rfl⟩
      obtain ⟨hf, hq2⟩ : ∃ q, d / 2 = q := ⟨_, rfl⟩
      have hd0 : 0 ≤ d := by omega
      have hq1 : d.tdiv 2 = hf := by rw [Int.tdiv_eq_ediv_of_nonneg hd0]; exact hq2
      obtain ⟨s, hs⟩ : ∃ s, a + hf = s := ⟨_, rfl⟩
      have hhf : 0 ≤ hf ∧ hf ≤ d := by omega
      have ewd : IntKind.i64.wrap d = d := by rw [IntKind.wrap_i64]; omega
      have ewh : IntKind.i64.wrap hf = hf := by rw [IntKind.wrap_i64]; omega
      have ews : IntKind.i64.wrap s = s := by rw [IntKind.wrap_i64]; omega
      have hsv : halfway a b = s := by unfold halfway; rw [hd, hq2, hs]
      obtain ⟨l', hl'⟩ : ∃ m, m = l := ⟨_, rfl⟩
      have HLL : Hid (l' ++ [s] = LL) := Lib.hid (by
        have := HLLb.out
        unfold behL at this
        rw [HAQ.out, HBQ.out, if_neg HTT.out, hsv] at this
        rw [hl']; exact this)
      rw [← hl'] at HO
      obtain ⟨wr, hwr⟩ : ∃ v, w3 = v := ⟨_, rfl⟩
      rw [hwr] at HBS hca HO HBW2 HK2 hs2 k2 ⊢
      have HBX : Hid (∀ w9 (o : Obj), (wr.drew.alloc o).grownBy w9 (some g) → Below base wr w9) := Lib.hid fun w9 o hg => ((Below.refl base wr).drew.alloc HBS.out.2 o).grown hg (by have := HBS.out.2; simp; omega) (fun j hj => by cases hj; exact k1)
      have HKB : Hid (∀ w9, Below base wr w9 → Blk w9 (w.heap.size + 1) 54 #[.slice none 0 0]) := Lib.hid fun w9 h9 => HK2.out.under h9 HBS.out.1
      have HBW := HBW2
      clear hl' hsv HA2 HCL HB2 HN1 HB1 HBW1 HT
      go_wp2_with fail
      refine wp_region_noPanic ?_
      refine wp_region_any (by kernel_rfl) ?_
      change wpAny _ _ _ _ _ _ _ (World.drew _)
      refine wpAny_take (i := 0) (v := ?v1) rfl (by kernel_rfl) (by kernel_rfl) (by kernel_rfl) (fun _ _ _ h => h) (Or.inl ⟨by rfl, ?hy1⟩) ?rest1
      case hy1 => (intro w; go_simp; try with_reducible rfl)
      refine wpAny_take (i := 1) (v := ?v2) rfl (by kernel_rfl) (by kernel_rfl) (by kernel_rfl) (fun _ _ _ h => h) (Or.inl ⟨by rfl, ?hy2⟩) ?rest2
      case hy2 => (intro w; go_simp; try with_reducible rfl)
      refine wpAny_take (i := 2) (v := ?v3) rfl (by kernel_rfl) (by kernel_rfl) (by kernel_rfl) (fun _ _ _ h => h) (Or.inl ⟨by rfl, ?hy3⟩) ?rest3
      case hy3 => (intro w; go_simp; try with_reducible rfl)
      refine wpAny_take (i := 3) (v := ?v4) rfl (by kernel_rfl) (by kernel_rfl) (by kernel_rfl) (fun _ _ _ h => h) (Or.inl ⟨by rfl, ?hy4⟩) ?rest4
      case hy4 => (intro w; go_simp; try with_reducible rfl)
      refine wpAny_take (i := 5) (v := ?v5) rfl (by kernel_rfl) (by kernel_rfl) (by kernel_rfl) (fun _ _ _ h => h) (Or.inl ⟨by rfl, ?hy5⟩) ?rest5
      case hy5 => (intro w; go_simp; try with_reducible rfl)
      refine wpAny_take (i := 6) (v := ?v6) rfl (by kernel_rfl) (by kernel_rfl) (by kernel_rfl) (fun _ _ _ h => h) (Or.inl ⟨by rfl, ?hy6⟩) ?rest6
      case hy6 => (intro w; go_simp; try with_reducible rfl)
      refine wpAny_take (i := 7) (v := ?v7) rfl (by kernel_rfl) (by kernel_rfl) (by kernel_rfl) (fun _ _ _ h => h) (Or.inl ⟨by rfl, ?hy7⟩) ?rest7
      case hy7 => (intro w; go_simp; try with_reducible rfl)
      refine wpAny_take (i := 8) (v := ?v8) rfl (by kernel_rfl) (by kernel_rfl) (by kernel_rfl) (fun _ _ _ h => h) (Or.inl ⟨by rfl, ?hy8⟩) ?rest8
      case hy8 => (intro w; go_simp; try with_reducible rfl)
      refine wpAny_take (i := 16) (v := ?v9) rfl (by kernel_rfl) (by kernel_rfl) (by kernel_rfl) (fun _ _ _ h => h) (Or.inl ⟨by rfl, ?hy9⟩) ?rest9
      case hy9 => (intro w; go_simp; try with_reducible rfl)
      refine wpAny_ready (rs := [4, 9]) (by kernel_rfl) (by simp) (AllReady.cons rfl (fun K hK => ?_) (AllReady.cons rfl (fun K hK => ?_) AllReady.nil))
      · go_simp
        refine hK _ _ ?_
        clear hK K
        refine wpAny_ready (rs := [9]) (by kernel_rfl) (by simp) (AllReady.cons rfl (fun K hK => ?_) AllReady.nil)
        go_simp
        refine hK _ _ ?_
        clear hK K
        refine wpAny_take (i := 10) (v := ?v10) rfl (by kernel_rfl) (by kernel_rfl) (by kernel_rfl) (fun _ _ _ h => h) (Or.inl ⟨by rfl, ?hy10⟩) ?rest10
        case hy10 => (intro w; go_simp; try with_reducible rfl)
        refine wpAny_take (i := 11) (v := ?v11) rfl (by kernel_rfl) (by kernel_rfl) (by kernel_rfl) (fun _ _ _ h => h) (Or.inl ⟨by rfl, ?hy11⟩) ?rest11
        case hy11 => (intro w; go_simp; try with_reducible rfl)
        refine wpAny_take (i := 12) (v := ?v12) rfl (by kernel_rfl) (by kernel_rfl) (by kernel_rfl) (fun _ _ _ h => h) (Or.inl ⟨by rfl, ?hy12⟩) ?rest12
        case hy12 => (intro w; go_simp; try with_reducible rfl)
        refine wpAny_ready (rs := [13]) (by kernel_rfl) (by simp) (AllReady.cons rfl (fun K hK => ?_) AllReady.nil)
        go_simp
        refine hK _ _ ?_
        clear hK K
        refine any_append (i := 14) _ rfl (by kernel_rfl) rfl (.tmp 57) (.tmp 70) _ rfl base 3 i0 (.int .i64 0) 1 8 Try.underlying64 hi0 hz0 hz1 hz2 rfl (by decide) _ n _ rfl (own_below HO.out (by exact (Below.refl _ _).drew.alloc (Nat.le_refl _) _)) ⟨_, 0, none⟩ 1 1 [.int .i64 s] rfl rfl (cell_one_new _ _ _) (by simp [Value.oneCell']) (by unfold maxLen; omega) (by omega) (by have := HBS.out; simp; omega) ?_
        intro v9 w9 hown9 hg9 _ _
        obtain ⟨g9, cap9, rfl⟩ := ownsRow_succ hown9
        have hbl9 : Below base wr w9 := HBX.out _ _ hg9
        have B9 := HKB.out w9 hbl9
        have r9 := B9.cell 0
        have f9 := B9.free 0
        have HN9 : Hid (Nums (w9.setCell ⟨w.heap.size + 1, 0, none⟩ (.slice (some ⟨g9, 0, none⟩) (n + 1) cap9)) (some ⟨g9, 0, none⟩) cap9 LL) := Lib.hid (by
          rw [← HLL.out]
          have h1 := (Nums.of_own (xs := l' ++ [s]) (by simpa using hown9)).1
          refine h1.far _ _ _ (fun _ b' off e => ?_)
          injection e with e
          injection e with e
          have h2 := HBS.out
          rcases hown9.2 with ⟨h3, _⟩ | ⟨g8, c8, u8, h3, h4, _⟩
          · cases h3
          · cases h3; omega)
        have HB9 : Hid (Below w.heap.size w (w9.setCell ⟨w.heap.size + 1, 0, none⟩ (.slice (some ⟨g9, 0, none⟩) (n + 1) cap9))) := Lib.hid ((HBW.out.trans (hbl9.mono (by have := HBS.out; omega))).setCell (p := ⟨w.heap.size + 1, 0, none⟩) (Nat.le_succ _) _)
        have E9 := Lib.hid (B9.put 0 (.slice (some ⟨g9, 0, none⟩) (n + 1) cap9))
        clear hown9 hg9 hbl9 B9
        refine wpAny_take (i := 15) (v := ?v13) rfl (by kernel_rfl) (by kernel_rfl) (by kernel_rfl) (fun _ _ _ h => h) (Or.inl ⟨by rfl, ?hy13⟩) ?rest13
        case hy13 => (intro w; go_simp; try with_reducible rfl)
        refine wpAny_ready (rs := [17]) (by kernel_rfl) (by simp) (AllReady.cons rfl (fun K hK => ?_) AllReady.nil)
        go_simp
        refine hK _ _ ?_
        clear hK K
        refine wpAny_take (i := 18) (v := ?v14) rfl (by kernel_rfl) (by kernel_rfl) (by kernel_rfl) (fun _ _ _ h => h) (Or.inl ⟨by rfl, ?hy14⟩) ?rest14
        case hy14 => (intro w; go_simp; try with_reducible rfl)
        refine wpAny_take (i := 19) (v := ?v15) rfl (by kernel_rfl) (by kernel_rfl) (by kernel_rfl) (fun _ _ _ h => h) (Or.inl ⟨by rfl, ?hy15⟩) ?rest15
        case hy15 => (intro w; go_simp; try with_reducible rfl)
        refine wpAny_done (by kernel_rfl) ?_ _
        refine NoPanic.normal ?_
        go_wp2_with fail
        have e0 := E9.out.cell 0
        clear r9 f9
        exact bodyPost_ret (v := .tuple #[.agg #[.slice (some ⟨g9, 0, none⟩) (n + 1) cap9], .int .i64 n, .int .i64 0]) (by simp [results, Try.results22, go_sem, e0]) rfl ⟨_, _, rfl, HN9.out, HB9.out⟩
      · go_simp
        refine hK _ _ ?_
        clear hK K
        refine wpAny_take (i := 10) (v := ?v16) rfl (by kernel_rfl) (by kernel_rfl) (by kernel_rfl) (fun _ _ _ h => h) (Or.inl ⟨by rfl, ?hy16⟩) ?rest16
        case hy16 => (intro w; go_simp; try with_reducible rfl)
        refine wpAny_take (i := 11) (v := ?v17) rfl (by kernel_rfl) (by kernel_rfl) (by kernel_rfl) (fun _ _ _ h => h) (Or.inl ⟨by rfl, ?hy17⟩) ?rest17
        case hy17 => (intro w; go_simp; try with_reducible rfl)
        refine wpAny_ready (rs := [4]) (by kernel_rfl) (by simp) (AllReady.cons rfl (fun K hK => ?_) AllReady.nil)
        go_simp
        refine hK _ _ ?_
        clear hK K
        refine wpAny_take (i := 12) (v := ?v18) rfl (by kernel_rfl) (by kernel_rfl) (by kernel_rfl) (fun _ _ _ h => h) (Or.inl ⟨by rfl, ?hy18⟩) ?rest18
        case hy18 => (intro w; go_simp; try with_reducible rfl)
        refine wpAny_ready (rs := [13]) (by kernel_rfl) (by simp) (AllReady.cons rfl (fun K hK => ?_) AllReady.nil)
        go_simp
        refine hK _ _ ?_
        clear hK K
        refine any_append (i := 14) _ rfl (by kernel_rfl) rfl (.tmp 57) (.tmp 70) _ rfl base 3 i0 (.int .i64 0) 1 8 Try.underlying64 hi0 hz0 hz1 hz2 rfl (by decide) _ n _ rfl (own_below HO.out (by exact (Below.refl _ _).drew.alloc (Nat.le_refl _) _)) ⟨_, 0, none⟩ 1 1 [.int .i64 s] rfl rfl (cell_one_new _ _ _) (by simp [Value.oneCell']) (by unfold maxLen; omega) (by omega) (by have := HBS.out; simp; omega) ?_
        intro v9 w9 hown9 hg9 _ _
        obtain ⟨g9, cap9, rfl⟩ := ownsRow_succ hown9
        have hbl9 : Below base wr w9 := HBX.out _ _ hg9
        have B9 := HKB.out w9 hbl9
        have r9 := B9.cell 0
        have f9 := B9.free 0
        have HN9 : Hid (Nums (w9.setCell ⟨w.heap.size + 1, 0, none⟩ (.slice (some ⟨g9, 0, none⟩) (n + 1) cap9)) (some ⟨g9, 0, none⟩) cap9 LL) := Lib.hid (by
          rw [← HLL.out]
          have h1 := (Nums.of_own (xs := l' ++ [s]) (by simpa using hown9)).1
          refine h1.far _ _ _ (fun _ b' off e => ?_)
          injection e with e
          injection e with e
          have h2 := HBS.out
          rcases hown9.2 with ⟨h3, _⟩ | ⟨g8, c8, u8, h3, h4, _⟩
          · cases h3
          · cases h3; omega)
        have HB9 : Hid (Below w.heap.size w (w9.setCell ⟨w.heap.size + 1, 0, none⟩ (.slice (some ⟨g9, 0, none⟩) (n + 1) cap9))) := Lib.hid ((HBW.out.trans (hbl9.mono (by have := HBS.out; omega))).setCell (p := ⟨w.heap.size + 1, 0, none⟩) (Nat.le_succ _) _)
        have E9 := Lib.hid (B9.put 0 (.slice (some ⟨g9, 0, none⟩) (n + 1) cap9))
        clear hown9 hg9 hbl9 B9
        refine wpAny_take (i := 15) (v := ?v19) rfl (by kernel_rfl) (by kernel_rfl) (by kernel_rfl) (fun _ _ _ h => h) (Or.inl ⟨by rfl, ?hy19⟩) ?rest19
        case hy19 => (intro w; go_simp; try with_reducible rfl)
        refine wpAny_ready (rs := [17]) (by kernel_rfl) (by simp) (AllReady.cons rfl (fun K hK => ?_) AllReady.nil)
        go_simp
        refine hK _ _ ?_
        clear hK K
        refine wpAny_take (i := 18) (v := ?v20) rfl (by kernel_rfl) (by kernel_rfl) (by kernel_rfl) (fun _ _ _ h => h) (Or.inl ⟨by rfl, ?hy20⟩) ?rest20
        case hy20 => (intro w; go_simp; try with_reducible rfl)
        refine wpAny_take (i := 19) (v := ?v21) rfl (by kernel_rfl) (by kernel_rfl) (by kernel_rfl) (fun _ _ _ h => h) (Or.inl ⟨by rfl, ?hy21⟩) ?rest21
        case hy21 => (intro w; go_simp; try with_reducible rfl)
        refine wpAny_done (by kernel_rfl) ?_ _
        refine NoPanic.normal ?_
        go_wp2_with fail
        have e0 := E9.out.cell 0
        clear r9 f9
        exact bodyPost_ret (v := .tuple #[.agg #[.slice (some ⟨g9, 0, none⟩) (n + 1) cap9], .int .i64 n, .int .i64 0]) (by simp [results, Try.results22, go_sem, e0]) rfl ⟨_, _, rfl, HN9.out, HB9.out⟩
end Go.Proofs.Ytjpimaiogdckpaa
