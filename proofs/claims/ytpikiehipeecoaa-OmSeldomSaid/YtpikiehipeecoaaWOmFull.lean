/-
  OM: the law OmFull.
-/
import Derived.Test.YtpikiehipeecoaaOmW
import Derived.Test.YtpikiehipeecoaaAfter
import Derived.RangeFuncBox
import Derived.Maps.AppendAt
namespace Go.Proofs.Ytpikiehipeecoaa
open Go.ChangeShapes Go.WideShapes Go.ChangeAt Go.RowKit Go.Sort

theorem Nums.ne_box {w : World} {p : Option Addr} {cap g : Nat} {xs : List Int} {t : TypeId} {v : Value} (h : Nums w p cap xs) (hB : Blk w g t #[v]) (hv : ∀ z, v ≠ .int .i64 z) : 0 < xs.length → ∀ b off, p = some ⟨b, off, none⟩ → b ≠ g := by
  intro h0 b off hp e
  obtain ⟨b', off', h1, _, h3⟩ := h.at_ 0 h0
  rw [hp] at h1
  simp only [Option.some.injEq, Addr.mk.injEq, and_true] at h1
  obtain ⟨rfl, rfl⟩ := h1
  rw [e, hB.cell, Nat.add_zero] at h3
  cases off with
  | zero => simp at h3; exact hv _ h3
  | succ k => simp at h3
/-- labels by so many gaps -/
def mulL (d : Int) (k : Nat) : List Int := (List.range k).map fun (i : Nat) => d * (i : Int)
theorem mulL_len (d : Int) (k : Nat) : (mulL d k).length = k := by simp [mulL]
theorem mulL_snoc (d : Int) (k : Nat) : mulL d (k + 1) = mulL d k ++ [d * (k : Int)] := by simp [mulL, List.range_succ]
theorem mulL_at (d : Int) (k i : Nat) (h : i < k) : (mulL d k).getD i 0 = d * (i : Int) := by simp [mulL, List.getD_eq_getElem?_getD, h]
theorem mulL_rt (d : Int) (k : Nat) (hd : 0 < d) (h1 : 1 ≤ k) (h2 : k ≤ 1000) (h3 : d * (k : Int) ≤ 1099511627776) : Rt (mulL d k) := by
  have hmono : ∀ i j : Nat, i < j → d * (i : Int) < d * (j : Int) := fun i j hij => Int.mul_lt_mul_of_pos_left (by omega) hd
  refine ⟨by rw [mulL_len]; exact h1, by rw [mulL_len]; exact h2, fun x hx => ?_, nodup_of_getD fun i j hi hj hij => ?_⟩
  · obtain ⟨i, hi, rfl⟩ := mem_getD hx
    rw [mulL_len] at hi
    rw [mulL_at d k i hi]
    exact ⟨Int.mul_nonneg (by omega) (by omega), by have := hmono i k hi; omega⟩
  · rw [mulL_len] at hi hj
    rw [mulL_at d k i hi, mulL_at d k j hj]
    have := hmono i j hij
    omega
set_option maxRecDepth 100000 in
set_option maxHeartbeats 8000000 in
theorem walkOmFull (a b : Int) (w : World) (ha : 0 ≤ a ∧ a ≤ 255) (hb : 0 ≤ b ∧ b ≤ 65535) :
    Calls Try.prog 7 #[.int .u8 a, .int .u16 b] w fun e w' => e = .returned (.bool true) ∧ Below w.heap.size w w' := by
  obtain ⟨i0, hi0, hz0, hz1, hz2⟩ := info_parts intInfo
  have hB := Below.refl w.heap.size w
  obtain ⟨m, hm⟩ : ∃ m, Int.tmod a 12 = m := ⟨_, rfl⟩
  have hm0 : 0 ≤ m ∧ m ≤ 11 := by rw [Int.tmod_eq_emod_of_nonneg ha.1] at hm; omega
  obtain ⟨N, hN⟩ : ∃ N : Nat, (990 : Int) + m = (N : Int) := ⟨(990 + m).toNat, by omega⟩
  have wm : IntKind.i64.wrap m = m := by rw [IntKind.wrap_i64]; omega
  have wN : IntKind.i64.wrap (N : Int) = N := by rw [IntKind.wrap_i64]; omega
  have hN0 : 990 ≤ N ∧ N ≤ 1001 := by omega
  obtain ⟨x, hx⟩ : ∃ x : Nat, Int.tmod b N = (x : Int) := ⟨(Int.tmod b N).toNat, by rw [Int.tmod_eq_emod_of_nonneg hb.1]; have := Int.emod_nonneg b (show (N : Int) ≠ 0 by omega); omega⟩
  have hxn : x < N := by rw [Int.tmod_eq_emod_of_nonneg hb.1] at hx; have := Int.emod_lt_of_pos b (show (0 : Int) < N by omega); omega
  have wx : IntKind.i64.wrap (x : Int) = x := by rw [IntKind.wrap_i64]; omega
  have nz : (N : Int) ≠ 0 := by omega
  have nz2 : ((N : Int) == 0) = false := by simp; omega
  clear hm0
  go_enter Try.func7, Try.ntmps7
  have HhB := Lib.hid hB
  clear  hB
  go_wp2_with fail
  have hB := HhB.out
  clear  HhB
  refine (shown_any _).mono ?_
  rintro e w1 ⟨rfl, hb⟩
  replace hB := hB.trans (hb.mono hB.size)
  clear hb
  have bO := Boxed.new w1 26 (.slice none 0 0)
  have hbO : Below w1.heap.size w1 (w1.alloc (.cells #[.slice none 0 0] 26)) := (Below.refl _ w1).alloc (Nat.le_refl _) _
  have HhB := Lib.hid hB
  clear hB
  go_wp2_with fail
  go_loopw [8] (fun vi wr => ∃ i : Nat, vi = .int .i64 i ∧ i ≤ N ∧ ∃ W', W' = wr ∧ ∃ v, Hid (Boxed W' w1.heap.size 26 v) ∧ Hid (W'.ownsRow w1.heap.size 3 1 v i ((mulL 7 i).map (Value.int .i64))) ∧ Hid (Below w1.heap.size w1 W')) (fun vi _ => N - (intOf vi).toNat)
  case atStart => exact ⟨0, rfl, by omega, _, rfl, _, Lib.hid bO, Lib.hid (by rw [show (mulL 7 0).map (Value.int .i64) = [] from rfl]; exact World.ownsRow_nil _ _ _ _), Lib.hid hbO⟩
  case round =>
    clear bO hbO
    obtain ⟨i, rfl, hi, wr, rfl, v, HBX, HRO, HBE⟩ := hrel
    by_cases hlt : i < N
    · have r1 : decide ((i : Int) < (N : Int)) = true := by simp; omega
      obtain ⟨s, hs⟩ : ∃ s, 7 * (i : Int) = s := ⟨_, rfl⟩
      have ws : IntKind.i64.wrap s = s := by rw [IntKind.wrap_i64]; omega
      have HS := Lib.hid hs
      have hc := HBX.out.cell
      have hsz := HBE.out.size
      go_wp2_with (at_builtin; refine wpList_append_own _ rfl (.tmp 24) (.tmp 27) _ rfl w1.heap.size 3 i0 (.int .i64 0) 1 8 Try.underlying24 hi0 hz0 hz1 hz2 rfl (by decide) _ i _ rfl (HRO.out.alloc _) ⟨wr.heap.size, 0, none⟩ 1 1 [.int .i64 s] rfl rfl (cell_one_new _ _ _) (by simp [Value.oneCell']) (by unfold maxLen; omega) (by omega) (by simp; omega) ?_; intro v' w9 hown' hgrow _; obtain ⟨g', cap', rfl⟩ := ownsRow_succ hown'; obtain ⟨hv1, hv2, hr2, -, hb2⟩ := HBX.out.appended (by decide) HRO.out HBE.out.size (Nat.le_refl _) hown' hgrow; have hc1 := hv1.cell; have hf1 := hv1.frozen)
      have HBX2 := Lib.hid hv2
      have HRO2 : Hid (World.ownsRow _ w1.heap.size 3 1 (.slice (some ⟨g', 0, none⟩) (i + 1) cap') (i + 1) ((mulL 7 (i + 1)).map (Value.int .i64))) := Lib.hid (by rw [mulL_snoc, HS.out]; simpa using hr2)
      have HBE2 := Lib.hid (HBE.out.trans hb2)
      clear hv1 hv2 hr2 hb2 hc1 hf1 hown' hgrow hc hs r1
      go_roundw
      case rel => exact ⟨i + 1, by simp, by omega, _, rfl, _, HBX2, HRO2, HBE2⟩
      case measure => simp [intOf]; omega
    have r1 : decide ((i : Int) < (N : Int)) = false := by simp; omega
    obtain rfl : i = N := by omega
    obtain ⟨p0, cap0, rfl⟩ : ∃ p cap, v = .slice p i cap := by
      rcases HRO.out.2 with ⟨h1, h2⟩ | ⟨g8, c8, u8, h1, _⟩
      · exact ⟨none, 0, by rw [h1, h2]⟩
      · exact ⟨_, _, h1⟩
    have N0 := (Nums.of_own HRO.out).1
    have KO : Blk wr w1.heap.size 26 #[.slice p0 i cap0] := HBX.out
    have hB := HhB.out.trans (HBE.out.mono HhB.out.size)
    clear HBX HRO HBE HhB hlt
    have HLE : Hid ((mulL 7 i).length = i) := Lib.hid (mulL_len 7 i)
    by_cases h1001 : 1000 < i
    · have HRT : Hid (¬ Rt (mulL 7 i)) := Lib.hid (fun h => by have := h.2.1; rw [mulL_len] at this; omega)
      have q1 : decide ((1000 : Int) < i) = true := by simp; omega
      have HBEH := Lib.hid fun wx (hx : Below wr.heap.size wr wx) => (show Calls Try.prog 10 #[.agg #[.slice p0 i cap0], .int .i64 (x : Int)] wx (BehPost wx (mulL 7 i) i 0 1) from behind_bad (mulL 7 i) i HLE.out HRT.out (by omega) _ _ _ x rfl wx (N0.later hx))
      have o0 : World.cell? _ ⟨w1.heap.size, 0, none⟩ = some (.slice p0 i cap0) := KO.cell 0
      have o0d := o0
      have ol := KO.lt
      have in0 : ¬ i = 0 := by omega
      have wb : IntKind.i64.wrap b = b := by rw [IntKind.wrap_i64]; omega
      have HN0 := Lib.hid N0
      have HKO := Lib.hid KO
      have HhB := Lib.hid hB
      clear N0 KO hB
      go_wp2_with fail
      refine wp_region_noPanic ?_
      refine wp_region_any (by kernel_rfl) ?_
      change wpAny _ _ _ _ _ _ _ (World.drew _)
      refine wpAny_take (i := 1) (v := ?v1) rfl (by kernel_rfl) (by kernel_rfl) (by kernel_rfl) (fun _ _ _ h => h) (Or.inl ⟨by rfl, ?hy1⟩) ?rest1
      case hy1 => (intro w; go_simp; try with_reducible rfl)
      refine wpAny_take (i := 2) (v := ?v2) rfl (by kernel_rfl) (by kernel_rfl) (by kernel_rfl) (fun _ _ _ h => h) (Or.inl ⟨by rfl, ?hy2⟩) ?rest2
      case hy2 => (intro w; go_simp; try with_reducible rfl)
      refine wpAny_take (i := 3) (v := ?v3) rfl (by kernel_rfl) (by kernel_rfl) (by kernel_rfl) (fun _ _ _ h => h) (Or.inl ⟨by rfl, ?hy3⟩) ?rest3
      case hy3 => (intro w; go_simp; try with_reducible rfl)
      refine wpAny_take (i := 4) (v := ?v4) rfl (by kernel_rfl) (by kernel_rfl) (by kernel_rfl) (fun _ _ _ h => h) (Or.inl ⟨by rfl, ?hy4⟩) ?rest4
      case hy4 => (intro w; go_simp; try with_reducible rfl)
      refine wpAny_ready (rs := [0, 10]) (by kernel_rfl) (by simp) (AllReady.cons rfl (fun K hK => ?_) (AllReady.cons rfl (fun K hK => ?_) AllReady.nil))
      · go_simp
        refine hK _ _ ?_
        clear hK K
        refine wpAny_ready (rs := [5, 10]) (by kernel_rfl) (by simp) (AllReady.cons rfl (fun K hK => ?_) (AllReady.cons rfl (fun K hK => ?_) AllReady.nil))
        · go_simp
          refine (HBEH.out _ (by first | exact (Below.refl _ _).drew | exact ((Below.refl _ _).drew).alloc (Nat.le_refl _) _ | exact (Below.refl _ _).alloc (Nat.le_refl _) _)).mono ?_
          rintro e w7 ⟨q2, c2, rfl, N1, hb7⟩
          refine hK _ _ ?_
          clear hK K
          refine wpAny_take (i := 6) (v := ?v5) rfl (by kernel_rfl) (by kernel_rfl) (by kernel_rfl) (fun _ _ _ h => h) (Or.inl ⟨by rfl, ?hy5⟩) ?rest5
          case hy5 => (intro w; go_simp; try with_reducible rfl)
          refine wpAny_take (i := 7) (v := ?v6) rfl (by kernel_rfl) (by kernel_rfl) (by kernel_rfl) (fun _ _ _ h => h) (Or.inl ⟨by rfl, ?hy6⟩) ?rest6
          case hy6 => (intro w; go_simp; try with_reducible rfl)
          refine wpAny_take (i := 8) (v := ?v7) rfl (by kernel_rfl) (by kernel_rfl) (by kernel_rfl) (fun _ _ _ h => h) (Or.inl ⟨by rfl, ?hy7⟩) ?rest7
          case hy7 => (intro w; go_simp; try with_reducible rfl)
          refine wpAny_take (i := 9) (v := ?v8) rfl (by kernel_rfl) (by kernel_rfl) (by kernel_rfl) (fun _ _ _ h => h) (Or.inl ⟨by rfl, ?hy8⟩) ?rest8
          case hy8 => (intro w; go_simp; try with_reducible rfl)
          refine wpAny_ready (rs := [10]) (by kernel_rfl) (by simp) (AllReady.cons rfl (fun K hK => ?_) AllReady.nil)
          go_simp
          refine hK _ _ ?_
          clear hK K
          have hb8 : Below wr.heap.size wr (w7.alloc (.cells #[.slice none 0 0] 26)) := ((Below.refl _ wr).drew.trans (hb7.mono (Nat.le_refl _))).alloc (by have := hb7.size; exact this) _
          have KX := Blk.made w7 26 #[.slice none 0 0]
          have NX := N1.later (below_alloc1 w7 (Obj.cells #[.slice none 0 0] 26))
          obtain ⟨BX, hBX⟩ : ∃ b, w7.heap.size = b := ⟨_, rfl⟩
          rw [hBX] at KX
          have c9 := KX.cell 0
          have f9 := KX.free 0
          rw [← hBX] at c9 f9
          have hb9 : Below wr.heap.size wr (w7.alloc (.cells #[.slice q2 i c2] 26)) := ((Below.refl _ wr).drew.trans (hb7.mono (Nat.le_refl _))).alloc (by have := hb7.size; exact this) _
          have KA9 := Lib.hid (Blk.made w7 26 #[.slice q2 i c2])
          have NX9 := Lib.hid (N1.later (below_alloc1 w7 (Obj.cells #[.slice q2 i c2] 26)))
          have KO9 := Lib.hid (HKO.out.later hb9)
          have N09 := Lib.hid (HN0.out.later hb9)
          have HB9 := Lib.hid (HhB.out.trans (hb9.mono HhB.out.size))
          clear hb8 hb9 KX NX N1 hb7 hBX o0 o0d
          refine wpAny_ready (rs := [11]) (by kernel_rfl) (by simp) (AllReady.cons rfl (fun K hK => ?_) AllReady.nil)
          go_simp
          refine hK _ _ ?_
          clear hK K
          refine wpAny_take (i := 12) (v := ?v9) rfl (by kernel_rfl) (by kernel_rfl) (by kernel_rfl) (fun _ _ _ h => h) (Or.inl ⟨by rfl, ?hy9⟩) ?rest9
          case hy9 => (intro w; go_simp; try with_reducible rfl)
          refine wpAny_take (i := 13) (v := ?v10) rfl (by kernel_rfl) (by kernel_rfl) (by kernel_rfl) (fun _ _ _ h => h) (Or.inl ⟨by rfl, ?hy10⟩) ?rest10
          case hy10 => (intro w; go_simp; try with_reducible rfl)
          clear c9 f9
          have o9 := KO9.out.cell 0
          have ol9 := KO9.out.lt
          have a9 := KA9.out.cell 0
          have al9 := KA9.out.lt
          refine wpAny_done (by kernel_rfl) ?_ _
          refine NoPanic.normal ?_
          go_wp2_with fail
          refine (right_at (mulL 7 i) i HLE.out (by omega) false (decide_eq_false HRT.out) _ _ _ N09.out).mono ?_
          rintro e w8 ⟨rfl, hb⟩
          have HB10 := Lib.hid (HB9.out.trans (hb.mono HB9.out.size))
          clear hb o9 ol9 a9 al9
          go_wp2_with fail
          go_ret
          exact ⟨rfl, HB10.out⟩
        · go_simp
          refine hK _ _ ?_
          clear hK K
          refine wpAny_ready (rs := [5]) (by kernel_rfl) (by simp) (AllReady.cons rfl (fun K hK => ?_) AllReady.nil)
          go_simp
          refine (HBEH.out _ (by first | exact (Below.refl _ _).drew | exact ((Below.refl _ _).drew).alloc (Nat.le_refl _) _ | exact (Below.refl _ _).alloc (Nat.le_refl _) _)).mono ?_
          rintro e w7 ⟨q2, c2, rfl, N1, hb7⟩
          refine hK _ _ ?_
          clear hK K
          refine wpAny_take (i := 6) (v := ?v11) rfl (by kernel_rfl) (by kernel_rfl) (by kernel_rfl) (fun _ _ _ h => h) (Or.inl ⟨by rfl, ?hy11⟩) ?rest11
          case hy11 => (intro w; go_simp; try with_reducible rfl)
          refine wpAny_take (i := 7) (v := ?v12) rfl (by kernel_rfl) (by kernel_rfl) (by kernel_rfl) (fun _ _ _ h => h) (Or.inl ⟨by rfl, ?hy12⟩) ?rest12
          case hy12 => (intro w; go_simp; try with_reducible rfl)
          refine wpAny_take (i := 8) (v := ?v13) rfl (by kernel_rfl) (by kernel_rfl) (by kernel_rfl) (fun _ _ _ h => h) (Or.inl ⟨by rfl, ?hy13⟩) ?rest13
          case hy13 => (intro w; go_simp; try with_reducible rfl)
          refine wpAny_take (i := 9) (v := ?v14) rfl (by kernel_rfl) (by kernel_rfl) (by kernel_rfl) (fun _ _ _ h => h) (Or.inl ⟨by rfl, ?hy14⟩) ?rest14
          case hy14 => (intro w; go_simp; try with_reducible rfl)
          have hb8 : Below wr.heap.size wr w7 := (by first | exact ((Below.refl _ wr).drew).alloc (Nat.le_refl _) _ | exact (Below.refl _ wr).alloc (Nat.le_refl _) _ : Below wr.heap.size wr _).trans (hb7.mono (by simp))
          have KX : Blk w7 wr.heap.size 26 #[.slice none 0 0] := by
            refine Blk.later ?_ hb7
            first | exact Blk.made wr _ _ | exact Blk.made wr.drew _ _
          have NX := N1
          obtain ⟨BX, hBX⟩ : ∃ b, wr.heap.size = b := ⟨_, rfl⟩
          rw [hBX] at KX
          rw [← hBX] at KX
          have c9 := KX.cell 0
          have f9 := KX.free 0
          have hBXw : wr.heap.size ≤ wr.heap.size := by omega
          have KA9 := Lib.hid (KX.put 0 (.slice q2 i c2))
          have NX9 := Lib.hid (NX.far wr.heap.size 0 (.slice q2 i c2) (NX.ne_box KX (fun z => by simp)))
          have hKO := HKO.out
          have KO9 := Lib.hid ((hKO.later hb8).far (p := ⟨wr.heap.size, 0, none⟩) (show w1.heap.size ≠ wr.heap.size by omega) (.slice q2 i c2))
          have N09 := Lib.hid ((HN0.out.later hb8).far wr.heap.size 0 (.slice q2 i c2) (fun h0 b off e => by have := HN0.out.below h0 b off e; omega))
          have HB9 := Lib.hid ((HhB.out.trans (hb8.mono HhB.out.size)).setCell (p := ⟨wr.heap.size, 0, none⟩) (show w.heap.size ≤ wr.heap.size by have := HhB.out.size; omega) (.slice q2 i c2))
          clear hb8 KX NX N1 hb7 hKO hBX o0 o0d
          refine wpAny_ready (rs := [11]) (by kernel_rfl) (by simp) (AllReady.cons rfl (fun K hK => ?_) AllReady.nil)
          go_simp
          refine hK _ _ ?_
          clear hK K
          refine wpAny_take (i := 12) (v := ?v15) rfl (by kernel_rfl) (by kernel_rfl) (by kernel_rfl) (fun _ _ _ h => h) (Or.inl ⟨by rfl, ?hy15⟩) ?rest15
          case hy15 => (intro w; go_simp; try with_reducible rfl)
          refine wpAny_take (i := 13) (v := ?v16) rfl (by kernel_rfl) (by kernel_rfl) (by kernel_rfl) (fun _ _ _ h => h) (Or.inl ⟨by rfl, ?hy16⟩) ?rest16
          case hy16 => (intro w; go_simp; try with_reducible rfl)
          clear c9 f9
          have o9 := KO9.out.cell 0
          have ol9 := KO9.out.lt
          have a9 := KA9.out.cell 0
          have al9 := KA9.out.lt
          refine wpAny_done (by kernel_rfl) ?_ _
          refine NoPanic.normal ?_
          go_wp2_with fail
          refine (right_at (mulL 7 i) i HLE.out (by omega) false (decide_eq_false HRT.out) _ _ _ N09.out).mono ?_
          rintro e w8 ⟨rfl, hb⟩
          have HB10 := Lib.hid (HB9.out.trans (hb.mono HB9.out.size))
          clear hb o9 ol9 a9 al9
          go_wp2_with fail
          go_ret
          exact ⟨rfl, HB10.out⟩
      · go_simp
        refine hK _ _ ?_
        clear hK K
        refine wpAny_ready (rs := [0]) (by kernel_rfl) (by simp) (AllReady.cons rfl (fun K hK => ?_) AllReady.nil)
        go_simp
        refine hK _ _ ?_
        clear hK K
        refine wpAny_ready (rs := [5]) (by kernel_rfl) (by simp) (AllReady.cons rfl (fun K hK => ?_) AllReady.nil)
        go_simp
        refine (HBEH.out _ (by first | exact (Below.refl _ _).drew | exact ((Below.refl _ _).drew).alloc (Nat.le_refl _) _ | exact (Below.refl _ _).alloc (Nat.le_refl _) _)).mono ?_
        rintro e w7 ⟨q2, c2, rfl, N1, hb7⟩
        refine hK _ _ ?_
        clear hK K
        refine wpAny_take (i := 6) (v := ?v17) rfl (by kernel_rfl) (by kernel_rfl) (by kernel_rfl) (fun _ _ _ h => h) (Or.inl ⟨by rfl, ?hy17⟩) ?rest17
        case hy17 => (intro w; go_simp; try with_reducible rfl)
        refine wpAny_take (i := 7) (v := ?v18) rfl (by kernel_rfl) (by kernel_rfl) (by kernel_rfl) (fun _ _ _ h => h) (Or.inl ⟨by rfl, ?hy18⟩) ?rest18
        case hy18 => (intro w; go_simp; try with_reducible rfl)
        refine wpAny_take (i := 8) (v := ?v19) rfl (by kernel_rfl) (by kernel_rfl) (by kernel_rfl) (fun _ _ _ h => h) (Or.inl ⟨by rfl, ?hy19⟩) ?rest19
        case hy19 => (intro w; go_simp; try with_reducible rfl)
        refine wpAny_take (i := 9) (v := ?v20) rfl (by kernel_rfl) (by kernel_rfl) (by kernel_rfl) (fun _ _ _ h => h) (Or.inl ⟨by rfl, ?hy20⟩) ?rest20
        case hy20 => (intro w; go_simp; try with_reducible rfl)
        have hb8 : Below wr.heap.size wr w7 := (by first | exact ((Below.refl _ wr).drew).alloc (Nat.le_refl _) _ | exact (Below.refl _ wr).alloc (Nat.le_refl _) _ : Below wr.heap.size wr _).trans (hb7.mono (by simp))
        have KX : Blk w7 wr.heap.size 26 #[.slice none 0 0] := by
          refine Blk.later ?_ hb7
          first | exact Blk.made wr _ _ | exact Blk.made wr.drew _ _
        have NX := N1
        obtain ⟨BX, hBX⟩ : ∃ b, wr.heap.size = b := ⟨_, rfl⟩
        rw [hBX] at KX
        rw [← hBX] at KX
        have c9 := KX.cell 0
        have f9 := KX.free 0
        have hBXw : wr.heap.size ≤ wr.heap.size := by omega
        have KA9 := Lib.hid (KX.put 0 (.slice q2 i c2))
        have NX9 := Lib.hid (NX.far wr.heap.size 0 (.slice q2 i c2) (NX.ne_box KX (fun z => by simp)))
        have hKO := HKO.out
        have KO9 := Lib.hid ((hKO.later hb8).far (p := ⟨wr.heap.size, 0, none⟩) (show w1.heap.size ≠ wr.heap.size by omega) (.slice q2 i c2))
        have N09 := Lib.hid ((HN0.out.later hb8).far wr.heap.size 0 (.slice q2 i c2) (fun h0 b off e => by have := HN0.out.below h0 b off e; omega))
        have HB9 := Lib.hid ((HhB.out.trans (hb8.mono HhB.out.size)).setCell (p := ⟨wr.heap.size, 0, none⟩) (show w.heap.size ≤ wr.heap.size by have := HhB.out.size; omega) (.slice q2 i c2))
        clear hb8 KX NX N1 hb7 hKO hBX o0 o0d
        refine wpAny_ready (rs := [11]) (by kernel_rfl) (by simp) (AllReady.cons rfl (fun K hK => ?_) AllReady.nil)
        go_simp
        refine hK _ _ ?_
        clear hK K
        refine wpAny_take (i := 12) (v := ?v21) rfl (by kernel_rfl) (by kernel_rfl) (by kernel_rfl) (fun _ _ _ h => h) (Or.inl ⟨by rfl, ?hy21⟩) ?rest21
        case hy21 => (intro w; go_simp; try with_reducible rfl)
        refine wpAny_take (i := 13) (v := ?v22) rfl (by kernel_rfl) (by kernel_rfl) (by kernel_rfl) (fun _ _ _ h => h) (Or.inl ⟨by rfl, ?hy22⟩) ?rest22
        case hy22 => (intro w; go_simp; try with_reducible rfl)
        clear c9 f9
        have o9 := KO9.out.cell 0
        have ol9 := KO9.out.lt
        have a9 := KA9.out.cell 0
        have al9 := KA9.out.lt
        refine wpAny_done (by kernel_rfl) ?_ _
        refine NoPanic.normal ?_
        go_wp2_with fail
        refine (right_at (mulL 7 i) i HLE.out (by omega) false (decide_eq_false HRT.out) _ _ _ N09.out).mono ?_
        rintro e w8 ⟨rfl, hb⟩
        have HB10 := Lib.hid (HB9.out.trans (hb.mono HB9.out.size))
        clear hb o9 ol9 a9 al9
        go_wp2_with fail
        go_ret
        exact ⟨rfl, HB10.out⟩
    have q1 : decide ((1000 : Int) < i) = false := by simp; omega
    have HRT : Hid (Rt (mulL 7 i)) := Lib.hid (mulL_rt 7 i (by omega) (by omega) (by omega) (by omega))
    by_cases h1000 : i = 1000
    · have q2 : ((i : Int) == 1000) = true := by simp; omega
      have q3 : decide ((i : Int) = 1000) = true := by simp; omega
      have HI := Lib.hid h1000
      clear h1000
      have HBEH := Lib.hid fun wx (hx : Below wr.heap.size wr wx) => (show Calls Try.prog 10 #[.agg #[.slice p0 i cap0], .int .i64 (x : Int)] wx (BehPost wx (mulL 7 i) i 0 2) from behind_full (mulL 7 i) i HLE.out HRT.out HI.out _ _ _ x rfl hxn wx (N0.later hx))
      have o0 : World.cell? _ ⟨w1.heap.size, 0, none⟩ = some (.slice p0 i cap0) := KO.cell 0
      have o0d := o0
      have ol := KO.lt
      have in0 : ¬ i = 0 := by omega
      have wb : IntKind.i64.wrap b = b := by rw [IntKind.wrap_i64]; omega
      have HN0 := Lib.hid N0
      have HKO := Lib.hid KO
      have HhB := Lib.hid hB
      clear N0 KO hB
      go_wp2_with fail
      refine wp_region_noPanic ?_
      refine wp_region_any (by kernel_rfl) ?_
      change wpAny _ _ _ _ _ _ _ (World.drew _)
      refine wpAny_take (i := 1) (v := ?v23) rfl (by kernel_rfl) (by kernel_rfl) (by kernel_rfl) (fun _ _ _ h => h) (Or.inl ⟨by rfl, ?hy23⟩) ?rest23
      case hy23 => (intro w; go_simp; try with_reducible rfl)
      refine wpAny_take (i := 2) (v := ?v24) rfl (by kernel_rfl) (by kernel_rfl) (by kernel_rfl) (fun _ _ _ h => h) (Or.inl ⟨by rfl, ?hy24⟩) ?rest24
      case hy24 => (intro w; go_simp; try with_reducible rfl)
      refine wpAny_take (i := 3) (v := ?v25) rfl (by kernel_rfl) (by kernel_rfl) (by kernel_rfl) (fun _ _ _ h => h) (Or.inl ⟨by rfl, ?hy25⟩) ?rest25
      case hy25 => (intro w; go_simp; try with_reducible rfl)
      refine wpAny_take (i := 4) (v := ?v26) rfl (by kernel_rfl) (by kernel_rfl) (by kernel_rfl) (fun _ _ _ h => h) (Or.inl ⟨by rfl, ?hy26⟩) ?rest26
      case hy26 => (intro w; go_simp; try with_reducible rfl)
      refine wpAny_ready (rs := [0, 10]) (by kernel_rfl) (by simp) (AllReady.cons rfl (fun K hK => ?_) (AllReady.cons rfl (fun K hK => ?_) AllReady.nil))
      · go_simp
        refine hK _ _ ?_
        clear hK K
        refine wpAny_ready (rs := [5, 10]) (by kernel_rfl) (by simp) (AllReady.cons rfl (fun K hK => ?_) (AllReady.cons rfl (fun K hK => ?_) AllReady.nil))
        · go_simp
          refine (HBEH.out _ (by first | exact (Below.refl _ _).drew | exact ((Below.refl _ _).drew).alloc (Nat.le_refl _) _ | exact (Below.refl _ _).alloc (Nat.le_refl _) _)).mono ?_
          rintro e w7 ⟨q2, c2, rfl, N1, hb7⟩
          refine hK _ _ ?_
          clear hK K
          refine wpAny_take (i := 6) (v := ?v27) rfl (by kernel_rfl) (by kernel_rfl) (by kernel_rfl) (fun _ _ _ h => h) (Or.inl ⟨by rfl, ?hy27⟩) ?rest27
          case hy27 => (intro w; go_simp; try with_reducible rfl)
          refine wpAny_take (i := 7) (v := ?v28) rfl (by kernel_rfl) (by kernel_rfl) (by kernel_rfl) (fun _ _ _ h => h) (Or.inl ⟨by rfl, ?hy28⟩) ?rest28
          case hy28 => (intro w; go_simp; try with_reducible rfl)
          refine wpAny_take (i := 8) (v := ?v29) rfl (by kernel_rfl) (by kernel_rfl) (by kernel_rfl) (fun _ _ _ h => h) (Or.inl ⟨by rfl, ?hy29⟩) ?rest29
          case hy29 => (intro w; go_simp; try with_reducible rfl)
          refine wpAny_take (i := 9) (v := ?v30) rfl (by kernel_rfl) (by kernel_rfl) (by kernel_rfl) (fun _ _ _ h => h) (Or.inl ⟨by rfl, ?hy30⟩) ?rest30
          case hy30 => (intro w; go_simp; try with_reducible rfl)
          refine wpAny_ready (rs := [10]) (by kernel_rfl) (by simp) (AllReady.cons rfl (fun K hK => ?_) AllReady.nil)
          go_simp
          refine hK _ _ ?_
          clear hK K
          have hb8 : Below wr.heap.size wr (w7.alloc (.cells #[.slice none 0 0] 26)) := ((Below.refl _ wr).drew.trans (hb7.mono (Nat.le_refl _))).alloc (by have := hb7.size; exact this) _
          have KX := Blk.made w7 26 #[.slice none 0 0]
          have NX := N1.later (below_alloc1 w7 (Obj.cells #[.slice none 0 0] 26))
          obtain ⟨BX, hBX⟩ : ∃ b, w7.heap.size = b := ⟨_, rfl⟩
          rw [hBX] at KX
          have c9 := KX.cell 0
          have f9 := KX.free 0
          rw [← hBX] at c9 f9
          have hb9 : Below wr.heap.size wr (w7.alloc (.cells #[.slice q2 i c2] 26)) := ((Below.refl _ wr).drew.trans (hb7.mono (Nat.le_refl _))).alloc (by have := hb7.size; exact this) _
          have KA9 := Lib.hid (Blk.made w7 26 #[.slice q2 i c2])
          have NX9 := Lib.hid (N1.later (below_alloc1 w7 (Obj.cells #[.slice q2 i c2] 26)))
          have KO9 := Lib.hid (HKO.out.later hb9)
          have N09 := Lib.hid (HN0.out.later hb9)
          have HB9 := Lib.hid (HhB.out.trans (hb9.mono HhB.out.size))
          clear hb8 hb9 KX NX N1 hb7 hBX o0 o0d
          refine wpAny_ready (rs := [11]) (by kernel_rfl) (by simp) (AllReady.cons rfl (fun K hK => ?_) AllReady.nil)
          go_simp
          refine hK _ _ ?_
          clear hK K
          refine wpAny_take (i := 12) (v := ?v31) rfl (by kernel_rfl) (by kernel_rfl) (by kernel_rfl) (fun _ _ _ h => h) (Or.inl ⟨by rfl, ?hy31⟩) ?rest31
          case hy31 => (intro w; go_simp; try with_reducible rfl)
          refine wpAny_take (i := 13) (v := ?v32) rfl (by kernel_rfl) (by kernel_rfl) (by kernel_rfl) (fun _ _ _ h => h) (Or.inl ⟨by rfl, ?hy32⟩) ?rest32
          case hy32 => (intro w; go_simp; try with_reducible rfl)
          clear c9 f9
          have o9 := KO9.out.cell 0
          have ol9 := KO9.out.lt
          have a9 := KA9.out.cell 0
          have al9 := KA9.out.lt
          refine wpAny_done (by kernel_rfl) ?_ _
          refine NoPanic.normal ?_
          go_wp2_with fail
          refine (right_at (mulL 7 i) i HLE.out (by omega) true (decide_eq_true HRT.out) _ _ _ N09.out).mono ?_
          rintro e w8 ⟨rfl, hb⟩
          have HB10 := Lib.hid (HB9.out.trans (hb.mono HB9.out.size))
          clear hb o9 ol9 a9 al9
          go_wp2_with fail
          go_ret
          exact ⟨rfl, HB10.out⟩
        · go_simp
          refine hK _ _ ?_
          clear hK K
          refine wpAny_ready (rs := [5]) (by kernel_rfl) (by simp) (AllReady.cons rfl (fun K hK => ?_) AllReady.nil)
          go_simp
          refine (HBEH.out _ (by first | exact (Below.refl _ _).drew | exact ((Below.refl _ _).drew).alloc (Nat.le_refl _) _ | exact (Below.refl _ _).alloc (Nat.le_refl _) _)).mono ?_
          rintro e w7 ⟨q2, c2, rfl, N1, hb7⟩
          refine hK _ _ ?_
          clear hK K
          refine wpAny_take (i := 6) (v := ?v33) rfl (by kernel_rfl) (by kernel_rfl) (by kernel_rfl) (fun _ _ _ h => h) (Or.inl ⟨by rfl, ?hy33⟩) ?rest33
          case hy33 => (intro w; go_simp; try with_reducible rfl)
          refine wpAny_take (i := 7) (v := ?v34) rfl (by kernel_rfl) (by kernel_rfl) (by kernel_rfl) (fun _ _ _ h => h) (Or.inl ⟨by rfl, ?hy34⟩) ?rest34
          case hy34 => (intro w; go_simp; try with_reducible rfl)
          refine wpAny_take (i := 8) (v := ?v35) rfl (by kernel_rfl) (by kernel_rfl) (by kernel_rfl) (fun _ _ _ h => h) (Or.inl ⟨by rfl, ?hy35⟩) ?rest35
          case hy35 => (intro w; go_simp; try with_reducible rfl)
          refine wpAny_take (i := 9) (v := ?v36) rfl (by kernel_rfl) (by kernel_rfl) (by kernel_rfl) (fun _ _ _ h => h) (Or.inl ⟨by rfl, ?hy36⟩) ?rest36
          case hy36 => (intro w; go_simp; try with_reducible rfl)
          have hb8 : Below wr.heap.size wr w7 := (by first | exact ((Below.refl _ wr).drew).alloc (Nat.le_refl _) _ | exact (Below.refl _ wr).alloc (Nat.le_refl _) _ : Below wr.heap.size wr _).trans (hb7.mono (by simp))
          have KX : Blk w7 wr.heap.size 26 #[.slice none 0 0] := by
            refine Blk.later ?_ hb7
            first | exact Blk.made wr _ _ | exact Blk.made wr.drew _ _
          have NX := N1
          obtain ⟨BX, hBX⟩ : ∃ b, wr.heap.size = b := ⟨_, rfl⟩
          rw [hBX] at KX
          rw [← hBX] at KX
          have c9 := KX.cell 0
          have f9 := KX.free 0
          have hBXw : wr.heap.size ≤ wr.heap.size := by omega
          have KA9 := Lib.hid (KX.put 0 (.slice q2 i c2))
          have NX9 := Lib.hid (NX.far wr.heap.size 0 (.slice q2 i c2) (NX.ne_box KX (fun z => by simp)))
          have hKO := HKO.out
          have KO9 := Lib.hid ((hKO.later hb8).far (p := ⟨wr.heap.size, 0, none⟩) (show w1.heap.size ≠ wr.heap.size by omega) (.slice q2 i c2))
          have N09 := Lib.hid ((HN0.out.later hb8).far wr.heap.size 0 (.slice q2 i c2) (fun h0 b off e => by have := HN0.out.below h0 b off e; omega))
          have HB9 := Lib.hid ((HhB.out.trans (hb8.mono HhB.out.size)).setCell (p := ⟨wr.heap.size, 0, none⟩) (show w.heap.size ≤ wr.heap.size by have := HhB.out.size; omega) (.slice q2 i c2))
          clear hb8 KX NX N1 hb7 hKO hBX o0 o0d
          refine wpAny_ready (rs := [11]) (by kernel_rfl) (by simp) (AllReady.cons rfl (fun K hK => ?_) AllReady.nil)
          go_simp
          refine hK _ _ ?_
          clear hK K
          refine wpAny_take (i := 12) (v := ?v37) rfl (by kernel_rfl) (by kernel_rfl) (by kernel_rfl) (fun _ _ _ h => h) (Or.inl ⟨by rfl, ?hy37⟩) ?rest37
          case hy37 => (intro w; go_simp; try with_reducible rfl)
          refine wpAny_take (i := 13) (v := ?v38) rfl (by kernel_rfl) (by kernel_rfl) (by kernel_rfl) (fun _ _ _ h => h) (Or.inl ⟨by rfl, ?hy38⟩) ?rest38
          case hy38 => (intro w; go_simp; try with_reducible rfl)
          clear c9 f9
          have o9 := KO9.out.cell 0
          have ol9 := KO9.out.lt
          have a9 := KA9.out.cell 0
          have al9 := KA9.out.lt
          refine wpAny_done (by kernel_rfl) ?_ _
          refine NoPanic.normal ?_
          go_wp2_with fail
          refine (right_at (mulL 7 i) i HLE.out (by omega) true (decide_eq_true HRT.out) _ _ _ N09.out).mono ?_
          rintro e w8 ⟨rfl, hb⟩
          have HB10 := Lib.hid (HB9.out.trans (hb.mono HB9.out.size))
          clear hb o9 ol9 a9 al9
          go_wp2_with fail
          go_ret
          exact ⟨rfl, HB10.out⟩
      · go_simp
        refine hK _ _ ?_
        clear hK K
        refine wpAny_ready (rs := [0]) (by kernel_rfl) (by simp) (AllReady.cons rfl (fun K hK => ?_) AllReady.nil)
        go_simp
        refine hK _ _ ?_
        clear hK K
        refine wpAny_ready (rs := [5]) (by kernel_rfl) (by simp) (AllReady.cons rfl (fun K hK => ?_) AllReady.nil)
        go_simp
        refine (HBEH.out _ (by first | exact (Below.refl _ _).drew | exact ((Below.refl _ _).drew).alloc (Nat.le_refl _) _ | exact (Below.refl _ _).alloc (Nat.le_refl _) _)).mono ?_
        rintro e w7 ⟨q2, c2, rfl, N1, hb7⟩
        refine hK _ _ ?_
        clear hK K
        refine wpAny_take (i := 6) (v := ?v39) rfl (by kernel_rfl) (by kernel_rfl) (by kernel_rfl) (fun _ _ _ h => h) (Or.inl ⟨by rfl, ?hy39⟩) ?rest39
        case hy39 => (intro w; go_simp; try with_reducible rfl)
        refine wpAny_take (i := 7) (v := ?v40) rfl (by kernel_rfl) (by kernel_rfl) (by kernel_rfl) (fun _ _ _ h => h) (Or.inl ⟨by rfl, ?hy40⟩) ?rest40
        case hy40 => (intro w; go_simp; try with_reducible rfl)
        refine wpAny_take (i := 8) (v := ?v41) rfl (by kernel_rfl) (by kernel_rfl) (by kernel_rfl) (fun _ _ _ h => h) (Or.inl ⟨by rfl, ?hy41⟩) ?rest41
        case hy41 => (intro w; go_simp; try with_reducible rfl)
        refine wpAny_take (i := 9) (v := ?v42) rfl (by kernel_rfl) (by kernel_rfl) (by kernel_rfl) (fun _ _ _ h => h) (Or.inl ⟨by rfl, ?hy42⟩) ?rest42
        case hy42 => (intro w; go_simp; try with_reducible rfl)
        have hb8 : Below wr.heap.size wr w7 := (by first | exact ((Below.refl _ wr).drew).alloc (Nat.le_refl _) _ | exact (Below.refl _ wr).alloc (Nat.le_refl _) _ : Below wr.heap.size wr _).trans (hb7.mono (by simp))
        have KX : Blk w7 wr.heap.size 26 #[.slice none 0 0] := by
          refine Blk.later ?_ hb7
          first | exact Blk.made wr _ _ | exact Blk.made wr.drew _ _
        have NX := N1
        obtain ⟨BX, hBX⟩ : ∃ b, wr.heap.size = b := ⟨_, rfl⟩
        rw [hBX] at KX
        rw [← hBX] at KX
        have c9 := KX.cell 0
        have f9 := KX.free 0
        have hBXw : wr.heap.size ≤ wr.heap.size := by omega
        have KA9 := Lib.hid (KX.put 0 (.slice q2 i c2))
        have NX9 := Lib.hid (NX.far wr.heap.size 0 (.slice q2 i c2) (NX.ne_box KX (fun z => by simp)))
        have hKO := HKO.out
        have KO9 := Lib.hid ((hKO.later hb8).far (p := ⟨wr.heap.size, 0, none⟩) (show w1.heap.size ≠ wr.heap.size by omega) (.slice q2 i c2))
        have N09 := Lib.hid ((HN0.out.later hb8).far wr.heap.size 0 (.slice q2 i c2) (fun h0 b off e => by have := HN0.out.below h0 b off e; omega))
        have HB9 := Lib.hid ((HhB.out.trans (hb8.mono HhB.out.size)).setCell (p := ⟨wr.heap.size, 0, none⟩) (show w.heap.size ≤ wr.heap.size by have := HhB.out.size; omega) (.slice q2 i c2))
        clear hb8 KX NX N1 hb7 hKO hBX o0 o0d
        refine wpAny_ready (rs := [11]) (by kernel_rfl) (by simp) (AllReady.cons rfl (fun K hK => ?_) AllReady.nil)
        go_simp
        refine hK _ _ ?_
        clear hK K
        refine wpAny_take (i := 12) (v := ?v43) rfl (by kernel_rfl) (by kernel_rfl) (by kernel_rfl) (fun _ _ _ h => h) (Or.inl ⟨by rfl, ?hy43⟩) ?rest43
        case hy43 => (intro w; go_simp; try with_reducible rfl)
        refine wpAny_take (i := 13) (v := ?v44) rfl (by kernel_rfl) (by kernel_rfl) (by kernel_rfl) (fun _ _ _ h => h) (Or.inl ⟨by rfl, ?hy44⟩) ?rest44
        case hy44 => (intro w; go_simp; try with_reducible rfl)
        clear c9 f9
        have o9 := KO9.out.cell 0
        have ol9 := KO9.out.lt
        have a9 := KA9.out.cell 0
        have al9 := KA9.out.lt
        refine wpAny_done (by kernel_rfl) ?_ _
        refine NoPanic.normal ?_
        go_wp2_with fail
        refine (right_at (mulL 7 i) i HLE.out (by omega) true (decide_eq_true HRT.out) _ _ _ N09.out).mono ?_
        rintro e w8 ⟨rfl, hb⟩
        have HB10 := Lib.hid (HB9.out.trans (hb.mono HB9.out.size))
        clear hb o9 ol9 a9 al9
        go_wp2_with fail
        go_ret
        exact ⟨rfl, HB10.out⟩
    · have q2 : ((i : Int) == 1000) = false := by simp; omega
      have q3 : decide ((i : Int) = 1000) = false := by simp; omega
      have h999 : i < 1000 := by omega
      clear h1000
      obtain ⟨m1, hm1⟩ : ∃ q, i + 1 = q := ⟨_, rfl⟩
      obtain ⟨L, hL⟩ : ∃ L, behL (mulL 7 i) x = L := ⟨_, rfl⟩
      have em1 : (i : Int) + 1 = (m1 : Int) := by omega
      have wm1 : IntKind.i64.wrap (m1 : Int) = m1 := by rw [IntKind.wrap_i64]; omega
      have HM1 := Lib.hid hm1
      clear hm1
      have HBEH := Lib.hid fun wx (hx : Below wr.heap.size wr wx) => (show Calls Try.prog 10 #[.agg #[.slice p0 i cap0], .int .i64 (x : Int)] wx (BehPost wx L m1 i 0) from behind_at (mulL 7 i) L i m1 x x i HLE.out HRT.out h999 hxn HM1.out rfl rfl hL _ _ wx (N0.later hx))
      have o0 : World.cell? _ ⟨w1.heap.size, 0, none⟩ = some (.slice p0 i cap0) := KO.cell 0
      have o0d := o0
      have ol := KO.lt
      have in0 : ¬ i = 0 := by omega
      have wb : IntKind.i64.wrap b = b := by rw [IntKind.wrap_i64]; omega
      have HN0 := Lib.hid N0
      have HKO := Lib.hid KO
      have HhB := Lib.hid hB
      clear N0 KO hB
      go_wp2_with fail
      refine wp_region_noPanic ?_
      refine wp_region_any (by kernel_rfl) ?_
      change wpAny _ _ _ _ _ _ _ (World.drew _)
      refine wpAny_take (i := 1) (v := ?v45) rfl (by kernel_rfl) (by kernel_rfl) (by kernel_rfl) (fun _ _ _ h => h) (Or.inl ⟨by rfl, ?hy45⟩) ?rest45
      case hy45 => (intro w; go_simp; try with_reducible rfl)
      refine wpAny_take (i := 2) (v := ?v46) rfl (by kernel_rfl) (by kernel_rfl) (by kernel_rfl) (fun _ _ _ h => h) (Or.inl ⟨by rfl, ?hy46⟩) ?rest46
      case hy46 => (intro w; go_simp; try with_reducible rfl)
      refine wpAny_take (i := 3) (v := ?v47) rfl (by kernel_rfl) (by kernel_rfl) (by kernel_rfl) (fun _ _ _ h => h) (Or.inl ⟨by rfl, ?hy47⟩) ?rest47
      case hy47 => (intro w; go_simp; try with_reducible rfl)
      refine wpAny_take (i := 4) (v := ?v48) rfl (by kernel_rfl) (by kernel_rfl) (by kernel_rfl) (fun _ _ _ h => h) (Or.inl ⟨by rfl, ?hy48⟩) ?rest48
      case hy48 => (intro w; go_simp; try with_reducible rfl)
      refine wpAny_ready (rs := [0, 10]) (by kernel_rfl) (by simp) (AllReady.cons rfl (fun K hK => ?_) (AllReady.cons rfl (fun K hK => ?_) AllReady.nil))
      · go_simp
        refine hK _ _ ?_
        clear hK K
        refine wpAny_ready (rs := [5, 10]) (by kernel_rfl) (by simp) (AllReady.cons rfl (fun K hK => ?_) (AllReady.cons rfl (fun K hK => ?_) AllReady.nil))
        · go_simp
          refine (HBEH.out _ (by first | exact (Below.refl _ _).drew | exact ((Below.refl _ _).drew).alloc (Nat.le_refl _) _ | exact (Below.refl _ _).alloc (Nat.le_refl _) _)).mono ?_
          rintro e w7 ⟨q2, c2, rfl, N1, hb7⟩
          refine hK _ _ ?_
          clear hK K
          refine wpAny_take (i := 6) (v := ?v49) rfl (by kernel_rfl) (by kernel_rfl) (by kernel_rfl) (fun _ _ _ h => h) (Or.inl ⟨by rfl, ?hy49⟩) ?rest49
          case hy49 => (intro w; go_simp; try with_reducible rfl)
          refine wpAny_take (i := 7) (v := ?v50) rfl (by kernel_rfl) (by kernel_rfl) (by kernel_rfl) (fun _ _ _ h => h) (Or.inl ⟨by rfl, ?hy50⟩) ?rest50
          case hy50 => (intro w; go_simp; try with_reducible rfl)
          refine wpAny_take (i := 8) (v := ?v51) rfl (by kernel_rfl) (by kernel_rfl) (by kernel_rfl) (fun _ _ _ h => h) (Or.inl ⟨by rfl, ?hy51⟩) ?rest51
          case hy51 => (intro w; go_simp; try with_reducible rfl)
          refine wpAny_take (i := 9) (v := ?v52) rfl (by kernel_rfl) (by kernel_rfl) (by kernel_rfl) (fun _ _ _ h => h) (Or.inl ⟨by rfl, ?hy52⟩) ?rest52
          case hy52 => (intro w; go_simp; try with_reducible rfl)
          refine wpAny_ready (rs := [10]) (by kernel_rfl) (by simp) (AllReady.cons rfl (fun K hK => ?_) AllReady.nil)
          go_simp
          refine hK _ _ ?_
          clear hK K
          have hb8 : Below wr.heap.size wr (w7.alloc (.cells #[.slice none 0 0] 26)) := ((Below.refl _ wr).drew.trans (hb7.mono (Nat.le_refl _))).alloc (by have := hb7.size; exact this) _
          have KX := Blk.made w7 26 #[.slice none 0 0]
          have NX := N1.later (below_alloc1 w7 (Obj.cells #[.slice none 0 0] 26))
          obtain ⟨BX, hBX⟩ : ∃ b, w7.heap.size = b := ⟨_, rfl⟩
          rw [hBX] at KX
          have c9 := KX.cell 0
          have f9 := KX.free 0
          rw [← hBX] at c9 f9
          have hb9 : Below wr.heap.size wr (w7.alloc (.cells #[.slice q2 m1 c2] 26)) := ((Below.refl _ wr).drew.trans (hb7.mono (Nat.le_refl _))).alloc (by have := hb7.size; exact this) _
          have KA9 := Lib.hid (Blk.made w7 26 #[.slice q2 m1 c2])
          have NX9 := Lib.hid (N1.later (below_alloc1 w7 (Obj.cells #[.slice q2 m1 c2] 26)))
          have KO9 := Lib.hid (HKO.out.later hb9)
          have N09 := Lib.hid (HN0.out.later hb9)
          have HB9 := Lib.hid (HhB.out.trans (hb9.mono HhB.out.size))
          clear hb8 hb9 KX NX N1 hb7 hBX o0 o0d
          refine wpAny_ready (rs := [11]) (by kernel_rfl) (by simp) (AllReady.cons rfl (fun K hK => ?_) AllReady.nil)
          go_simp
          refine hK _ _ ?_
          clear hK K
          refine wpAny_take (i := 12) (v := ?v53) rfl (by kernel_rfl) (by kernel_rfl) (by kernel_rfl) (fun _ _ _ h => h) (Or.inl ⟨by rfl, ?hy53⟩) ?rest53
          case hy53 => (intro w; go_simp; try with_reducible rfl)
          refine wpAny_take (i := 13) (v := ?v54) rfl (by kernel_rfl) (by kernel_rfl) (by kernel_rfl) (fun _ _ _ h => h) (Or.inl ⟨by rfl, ?hy54⟩) ?rest54
          case hy54 => (intro w; go_simp; try with_reducible rfl)
          clear c9 f9
          have o9 := KO9.out.cell 0
          have ol9 := KO9.out.lt
          have a9 := KA9.out.cell 0
          have al9 := KA9.out.lt
          refine wpAny_done (by kernel_rfl) ?_ _
          refine NoPanic.normal ?_
          go_wp2_with fail
          go_ret
          exact ⟨rfl, HB9.out⟩
        · go_simp
          refine hK _ _ ?_
          clear hK K
          refine wpAny_ready (rs := [5]) (by kernel_rfl) (by simp) (AllReady.cons rfl (fun K hK => ?_) AllReady.nil)
          go_simp
          refine (HBEH.out _ (by first | exact (Below.refl _ _).drew | exact ((Below.refl _ _).drew).alloc (Nat.le_refl _) _ | exact (Below.refl _ _).alloc (Nat.le_refl _) _)).mono ?_
          rintro e w7 ⟨q2, c2, rfl, N1, hb7⟩
          refine hK _ _ ?_
          clear hK K
          refine wpAny_take (i := 6) (v := ?v55) rfl (by kernel_rfl) (by kernel_rfl) (by kernel_rfl) (fun _ _ _ h => h) (Or.inl ⟨by rfl, ?hy55⟩) ?rest55
          case hy55 => (intro w; go_simp; try with_reducible rfl)
          refine wpAny_take (i := 7) (v := ?v56) rfl (by kernel_rfl) (by kernel_rfl) (by kernel_rfl) (fun _ _ _ h => h) (Or.inl ⟨by rfl, ?hy56⟩) ?rest56
          case hy56 => (intro w; go_simp; try with_reducible rfl)
          refine wpAny_take (i := 8) (v := ?v57) rfl (by kernel_rfl) (by kernel_rfl) (by kernel_rfl) (fun _ _ _ h => h) (Or.inl ⟨by rfl, ?hy57⟩) ?rest57
          case hy57 => (intro w; go_simp; try with_reducible rfl)
          refine wpAny_take (i := 9) (v := ?v58) rfl (by kernel_rfl) (by kernel_rfl) (by kernel_rfl) (fun _ _ _ h => h) (Or.inl ⟨by rfl, ?hy58⟩) ?rest58
          case hy58 => (intro w; go_simp; try with_reducible rfl)
          have hb8 : Below wr.heap.size wr w7 := (by first | exact ((Below.refl _ wr).drew).alloc (Nat.le_refl _) _ | exact (Below.refl _ wr).alloc (Nat.le_refl _) _ : Below wr.heap.size wr _).trans (hb7.mono (by simp))
          have KX : Blk w7 wr.heap.size 26 #[.slice none 0 0] := by
            refine Blk.later ?_ hb7
            first | exact Blk.made wr _ _ | exact Blk.made wr.drew _ _
          have NX := N1
          obtain ⟨BX, hBX⟩ : ∃ b, wr.heap.size = b := ⟨_, rfl⟩
          rw [hBX] at KX
          rw [← hBX] at KX
          have c9 := KX.cell 0
          have f9 := KX.free 0
          have hBXw : wr.heap.size ≤ wr.heap.size := by omega
          have KA9 := Lib.hid (KX.put 0 (.slice q2 m1 c2))
          have NX9 := Lib.hid (NX.far wr.heap.size 0 (.slice q2 m1 c2) (NX.ne_box KX (fun z => by simp)))
          have hKO := HKO.out
          have KO9 := Lib.hid ((hKO.later hb8).far (p := ⟨wr.heap.size, 0, none⟩) (show w1.heap.size ≠ wr.heap.size by omega) (.slice q2 m1 c2))
          have N09 := Lib.hid ((HN0.out.later hb8).far wr.heap.size 0 (.slice q2 m1 c2) (fun h0 b off e => by have := HN0.out.below h0 b off e; omega))
          have HB9 := Lib.hid ((HhB.out.trans (hb8.mono HhB.out.size)).setCell (p := ⟨wr.heap.size, 0, none⟩) (show w.heap.size ≤ wr.heap.size by have := HhB.out.size; omega) (.slice q2 m1 c2))
          clear hb8 KX NX N1 hb7 hKO hBX o0 o0d
          refine wpAny_ready (rs := [11]) (by kernel_rfl) (by simp) (AllReady.cons rfl (fun K hK => ?_) AllReady.nil)
          go_simp
          refine hK _ _ ?_
          clear hK K
          refine wpAny_take (i := 12) (v := ?v59) rfl (by kernel_rfl) (by kernel_rfl) (by kernel_rfl) (fun _ _ _ h => h) (Or.inl ⟨by rfl, ?hy59⟩) ?rest59
          case hy59 => (intro w; go_simp; try with_reducible rfl)
          refine wpAny_take (i := 13) (v := ?v60) rfl (by kernel_rfl) (by kernel_rfl) (by kernel_rfl) (fun _ _ _ h => h) (Or.inl ⟨by rfl, ?hy60⟩) ?rest60
          case hy60 => (intro w; go_simp; try with_reducible rfl)
          clear c9 f9
          have o9 := KO9.out.cell 0
          have ol9 := KO9.out.lt
          have a9 := KA9.out.cell 0
          have al9 := KA9.out.lt
          refine wpAny_done (by kernel_rfl) ?_ _
          refine NoPanic.normal ?_
          go_wp2_with fail
          go_ret
          exact ⟨rfl, HB9.out⟩
      · go_simp
        refine hK _ _ ?_
        clear hK K
        refine wpAny_ready (rs := [0]) (by kernel_rfl) (by simp) (AllReady.cons rfl (fun K hK => ?_) AllReady.nil)
        go_simp
        refine hK _ _ ?_
        clear hK K
        refine wpAny_ready (rs := [5]) (by kernel_rfl) (by simp) (AllReady.cons rfl (fun K hK => ?_) AllReady.nil)
        go_simp
        refine (HBEH.out _ (by first | exact (Below.refl _ _).drew | exact ((Below.refl _ _).drew).alloc (Nat.le_refl _) _ | exact (Below.refl _ _).alloc (Nat.le_refl _) _)).mono ?_
        rintro e w7 ⟨q2, c2, rfl, N1, hb7⟩
        refine hK _ _ ?_
        clear hK K
        refine wpAny_take (i := 6) (v := ?v61) rfl (by kernel_rfl) (by kernel_rfl) (by kernel_rfl) (fun _ _ _ h => h) (Or.inl ⟨by rfl, ?hy61⟩) ?rest61
        case hy61 => (intro w; go_simp; try with_reducible rfl)
        refine wpAny_take (i := 7) (v := ?v62) rfl (by kernel_rfl) (by kernel_rfl) (by kernel_rfl) (fun _ _ _ h => h) (Or.inl ⟨by rfl, ?hy62⟩) ?rest62
        case hy62 => (intro w; go_simp; try with_reducible rfl)
        refine wpAny_take (i := 8) (v := ?v63) rfl (by kernel_rfl) (by kernel_rfl) (by kernel_rfl) (fun _ _ _ h => h) (Or.inl ⟨by rfl, ?hy63⟩) ?rest63
        case hy63 => (intro w; go_simp; try with_reducible rfl)
        refine wpAny_take (i := 9) (v := ?v64) rfl (by kernel_rfl) (by kernel_rfl) (by kernel_rfl) (fun _ _ _ h => h) (Or.inl ⟨by rfl, ?hy64⟩) ?rest64
        case hy64 => (intro w; go_simp; try with_reducible rfl)
        have hb8 : Below wr.heap.size wr w7 := (by first | exact ((Below.refl _ wr).drew).alloc (Nat.le_refl _) _ | exact (Below.refl _ wr).alloc (Nat.le_refl _) _ : Below wr.heap.size wr _).trans (hb7.mono (by simp))
        have KX : Blk w7 wr.heap.size 26 #[.slice none 0 0] := by
          refine Blk.later ?_ hb7
          first | exact Blk.made wr _ _ | exact Blk.made wr.drew _ _
        have NX := N1
        obtain ⟨BX, hBX⟩ : ∃ b, wr.heap.size = b := ⟨_, rfl⟩
        rw [hBX] at KX
        rw [← hBX] at KX
        have c9 := KX.cell 0
        have f9 := KX.free 0
        have hBXw : wr.heap.size ≤ wr.heap.size := by omega
        have KA9 := Lib.hid (KX.put 0 (.slice q2 m1 c2))
        have NX9 := Lib.hid (NX.far wr.heap.size 0 (.slice q2 m1 c2) (NX.ne_box KX (fun z => by simp)))
        have hKO := HKO.out
        have KO9 := Lib.hid ((hKO.later hb8).far (p := ⟨wr.heap.size, 0, none⟩) (show w1.heap.size ≠ wr.heap.size by omega) (.slice q2 m1 c2))
        have N09 := Lib.hid ((HN0.out.later hb8).far wr.heap.size 0 (.slice q2 m1 c2) (fun h0 b off e => by have := HN0.out.below h0 b off e; omega))
        have HB9 := Lib.hid ((HhB.out.trans (hb8.mono HhB.out.size)).setCell (p := ⟨wr.heap.size, 0, none⟩) (show w.heap.size ≤ wr.heap.size by have := HhB.out.size; omega) (.slice q2 m1 c2))
        clear hb8 KX NX N1 hb7 hKO hBX o0 o0d
        refine wpAny_ready (rs := [11]) (by kernel_rfl) (by simp) (AllReady.cons rfl (fun K hK => ?_) AllReady.nil)
        go_simp
        refine hK _ _ ?_
        clear hK K
        refine wpAny_take (i := 12) (v := ?v65) rfl (by kernel_rfl) (by kernel_rfl) (by kernel_rfl) (fun _ _ _ h => h) (Or.inl ⟨by rfl, ?hy65⟩) ?rest65
        case hy65 => (intro w; go_simp; try with_reducible rfl)
        refine wpAny_take (i := 13) (v := ?v66) rfl (by kernel_rfl) (by kernel_rfl) (by kernel_rfl) (fun _ _ _ h => h) (Or.inl ⟨by rfl, ?hy66⟩) ?rest66
        case hy66 => (intro w; go_simp; try with_reducible rfl)
        clear c9 f9
        have o9 := KO9.out.cell 0
        have ol9 := KO9.out.lt
        have a9 := KA9.out.cell 0
        have al9 := KA9.out.lt
        refine wpAny_done (by kernel_rfl) ?_ _
        refine NoPanic.normal ?_
        go_wp2_with fail
        go_ret
        exact ⟨rfl, HB9.out⟩
end Go.Proofs.Ytpikiehipeecoaa
