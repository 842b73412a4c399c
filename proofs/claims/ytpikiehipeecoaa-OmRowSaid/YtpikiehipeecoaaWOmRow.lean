/-
  OM: the law OmRow.
-/
import Derived.Test.YtpikiehipeecoaaWOmFull
import Derived.Test.YtpikiehipeecoaaAfter
import Derived.RangeFuncBox
import Derived.Maps.AppendAt
namespace Go.Proofs.Ytpikiehipeecoaa
open Go.ChangeShapes Go.WideShapes Go.ChangeAt Go.RowKit Go.Sort

theorem ins_snoc (r : List Nat) (k x n : Nat) (hk : k < r.length) : ins (r.take (k + 1)) x n = ins (r.take k) x n ++ (if r[k] = x then [r[k], n] else [r[k]]) := by
  rw [List.take_succ_eq_append_getElem hk, ins_app]; simp [ins]
theorem ins_len_le (r : List Nat) (x n : Nat) : (ins r x n).length ≤ 2 * r.length := by
  induction r with
  | nil => simp [ins]
  | cons a t ih =>
    have : ins (a :: t) x n = (if a = x then [a, n] else [a]) ++ ins t x n := by simp [ins]
    rw [this, List.length_append]
    split <;> simp <;> omega
def natV (r : List Nat) : List Value := (r.map Int.ofNat).map (Value.int .i64)
theorem natV_app (r s : List Nat) : natV (r ++ s) = natV r ++ natV s := by simp [natV]
theorem rw_one : IsRw [0] [0] := ⟨by decide, by decide⟩
set_option maxRecDepth 100000 in
set_option maxHeartbeats 8000000 in
theorem walkOmRow (pl : Option Addr) (len cl : Nat) (zl : List Int) (w : World) (wl : IsRow .u8 w pl len cl zl) :
    Calls Try.prog 3 #[.slice pl len cl] w fun e w' => e = .returned (.bool true) ∧ Below w.heap.size w w' := by
  obtain ⟨i0, hi0, hz0, hz1, hz2⟩ := info_parts intInfo
  have hB := Below.refl w.heap.size w
  obtain ⟨hlm, hro⟩ := wl.opened
  have HRW : Hid (∀ wx, Below w.heap.size w wx → ∀ i, i < len → ∃ b off v, pl = some ⟨b, off, none⟩ ∧ wx.cell? ⟨b, off + i, none⟩ = some (.int .u8 v) ∧ 0 ≤ v ∧ v ≤ 255) := Lib.hid fun wx hx i hi => by
    rcases hro with h0 | ⟨b, off, h1, h2⟩
    · omega
    · have h3 := (h2.later hx).2 i hi
      exact ⟨b, off, _, h1, h3.1, (u8_bd h3.2).1, (u8_bd h3.2).2⟩
  clear hro wl zl hlm
  go_enter Try.func3, Try.ntmps3
  have HhB := Lib.hid hB
  clear  hB
  go_wp2_with fail
  have hB := HhB.out
  clear  HhB
  refine (shown_any _).mono ?_
  rintro e w1 ⟨rfl, hb⟩
  replace hB := hB.trans (hb.mono hB.size)
  clear hb
  have HW1 : Hid (w.heap.size ≤ w1.heap.size) := Lib.hid hB.size
  by_cases h120 : 120 < len
  · have d1 : decide (120 < (len : Int)) = true := by simp; omega
    have HhB := Lib.hid hB
    clear  hB
    go_wp2_with fail
    have hB := HhB.out
    clear  HhB
    go_ret
    exact ⟨rfl, hB⟩
  have d1 : decide (120 < (len : Int)) = false := by simp; omega
  have HhB := Lib.hid hB
  clear  hB
  go_wp2_with fail
  have hB := HhB.out
  clear  HhB
  refine (new_any _).mono ?_
  rintro e w2 ⟨g0, rfl, N0, hb⟩
  replace hB := hB.trans (hb.mono hB.size)
  clear hb
  have HW2 : Hid (w.heap.size ≤ w2.heap.size) := Lib.hid hB.size
  obtain ⟨V2, hV⟩ : ∃ V, V = w2.alloc (Obj.cells #[.slice (some ⟨g0, 0, none⟩) 1 1] 26) := ⟨_, rfl⟩
  have KO : Blk V2 w2.heap.size 26 #[.slice (some ⟨g0, 0, none⟩) 1 1] := by rw [hV]; exact Blk.made _ _ _
  have hbv : Below w2.heap.size w2 V2 := by rw [hV]; exact below_alloc1 _ _
  replace N0 := N0.later hbv
  replace hB := hB.trans (hbv.mono hB.size)
  clear hbv
  have HV := Lib.hid hV
  clear hV
  have HVC := HV
  obtain ⟨V3, hV⟩ : ∃ V, V = V2.alloc (Obj.cells #[.int .i64 0] 3) := ⟨_, rfl⟩
  have KI : Blk V3 V2.heap.size 3 #[.int .i64 0] := by rw [hV]; exact Blk.made _ _ _
  have hbv : Below V2.heap.size V2 V3 := by rw [hV]; exact below_alloc1 _ _
  replace N0 := N0.later hbv
  replace KO := KO.later hbv
  replace hB := hB.trans (hbv.mono hB.size)
  clear hbv
  have HV := Lib.hid hV
  clear hV
  have HN0 := Lib.hid N0
  have HKO := Lib.hid KO
  have HKI := Lib.hid KI
  have HhB := Lib.hid hB
  clear N0 KO KI hB
  go_wp2_with fail
  have N0 := HN0.out
  have KO := HKO.out
  have KI := HKI.out
  have hB := HhB.out
  clear HN0 HKO HKI HhB
  rw [← HVC.out, ← HV.out]
  have NR := Nums.of_blk (xs := [0]) (cap := 1) KI (by rfl) (by decide) (by decide)
  rw [show V2.heap.size = w2.heap.size + 1 from by rw [HVC.out]; simp] at NR
  obtain ⟨B4, hB4⟩ : ∃ b, w2.heap.size = b := ⟨_, rfl⟩
  have HBW : Hid (w.heap.size ≤ B4) := Lib.hid (by rw [← hB4]; exact HW2.out)
  have HKO := Lib.hid KO
  have HN0 := Lib.hid N0
  have HNR : Hid (Nums V3 (some ⟨w2.heap.size + 1, 0, none⟩) 1 (([0] : List Nat).map Int.ofNat)) := Lib.hid NR
  have HhB := Lib.hid hB
  rw [hB4] at HKO HNR ⊢
  clear KO N0 NR KI hB HV HVC d1 hB4
  go_loopw [5, 6] (fun v5 vi wq => ∃ j : Nat, vi = .int .i64 j ∧ j ≤ len ∧ ∃ W', W' = wq ∧ ∃ (q : Option Addr) (mm cap : Nat) (L : List Int) (p5 : Option Addr) (c5 : Nat) (r : List Nat), v5 = .slice p5 mm c5 ∧ Hid (mm = j + 1) ∧ Hid (Blk W' B4 26 #[.slice q mm cap]) ∧ Hid (Nums W' q cap L) ∧ Hid (L.length = mm) ∧ Hid (Rt L) ∧ Hid (Nums W' p5 c5 (r.map Int.ofNat)) ∧ Hid (IsRw L r) ∧ Hid (Below w.heap.size w W')) (fun _ vi _ => len - (intOf vi).toNat)
  case atStart => exact ⟨0, rfl, by omega, _, rfl, _, 1, _, [0], _, _, [0], rfl, Lib.hid rfl, HKO, HN0, Lib.hid rfl, Lib.hid (by decide), HNR, Lib.hid rw_one, HhB⟩
  case round =>
    clear HKO HN0 HNR HhB
    obtain ⟨j, rfl, hj, wq, rfl, q, mm, cap, L, p5, c5, r, rfl, HMJ, HKO, HN0, HLE, HRT, HNR, HIS, HhB⟩ := hrel
    by_cases hjt : j < len
    · have hmm := HMJ.out
      have s1 : decide ((j : Int) < (len : Int)) = true := by simp; omega
      obtain ⟨b, off, v, rfl, cv, hv0, hv1⟩ := HRW.out wq HhB.out j hjt
      have ejm : (j : Int) + 1 = (mm : Int) := by omega
      have wjm : IntKind.i64.wrap (mm : Int) = mm := by rw [IntKind.wrap_i64]; omega
      obtain ⟨x, hx⟩ : ∃ x : Nat, Int.tmod v mm = (x : Int) := ⟨(Int.tmod v mm).toNat, by rw [Int.tmod_eq_emod_of_nonneg hv0]; have := Int.emod_nonneg v (show (mm : Int) ≠ 0 by omega); omega⟩
      have hxn : x < mm := by rw [Int.tmod_eq_emod_of_nonneg hv0] at hx; have := Int.emod_lt_of_pos v (show (0 : Int) < mm by omega); omega
      have wx : IntKind.i64.wrap (x : Int) = x := by rw [IntKind.wrap_i64]; omega
      have wv : IntKind.i64.wrap v = v := by rw [IntKind.wrap_i64]; omega
      have in0 : ¬ mm = 0 := by omega
      have nz : (mm : Int) ≠ 0 := by omega
      have nz2 : ((mm : Int) == 0) = false := by simp; omega
      have j0 : (0 : Int) ≤ j := by omega
      have j1 : (j : Int) < len := by omega
      have hmb : 1 ≤ mm ∧ mm ≤ 120 := by omega
      clear hmm
      have KO := HKO.out
      have N0 := HN0.out
      have NR := HNR.out
      have hB := HhB.out
      clear HKO HN0 HNR HhB
      have o0 : World.cell? _ ⟨B4, 0, none⟩ = some (.slice q mm cap) := KO.cell 0
      have ol := KO.lt
      have HKO := Lib.hid KO
      have HN0 := Lib.hid N0
      have HNR := Lib.hid NR
      have HhB := Lib.hid hB
      clear KO N0 NR hB
      go_wp2_with fail
      clear o0 ol cv s1
      have KO := HKO.out
      have N0 := HN0.out
      have NR := HNR.out
      have hB := HhB.out
      clear HKO HN0 HNR HhB
      have HBD := Lib.hid (behind_ok HRT.out x (by rw [HLE.out]; exact hxn))
      obtain ⟨L2, hL2⟩ : ∃ L2, behL L x = L2 := ⟨_, rfl⟩
      rw [hL2] at HBD
      obtain ⟨m1, hm1⟩ : ∃ q, mm + 1 = q := ⟨_, rfl⟩
      have HRT2 : Hid (Rt L2) := Lib.hid (HBD.out.right (by rw [HLE.out]; omega))
      have HLE2 : Hid (L2.length = m1) := Lib.hid (by rw [HBD.out.len, HLE.out]; exact hm1)
      have HIS2 : Hid (IsRw L2 (ins r x mm)) := Lib.hid (by have := ins_rw HRT.out (by rw [HLE.out]; exact hxn) HBD.out HIS.out; rwa [HLE.out] at this)
      have HRLEN : Hid (r.length = mm) := Lib.hid (by rw [HIS.out.len, HLE.out])
      have HM1 := Lib.hid hm1
      have hmm1 : mm < m1 := by omega
      clear hm1
      refine (behind_at L L2 mm m1 x x mm HLE.out HRT.out (by omega) hxn HM1.out rfl rfl hL2 _ _ _ N0).mono ?_
      rintro e w4 ⟨q2, c2, rfl, N1, hb⟩
      replace KO := KO.later hb
      replace N0 := N0.later hb
      replace NR := NR.later hb
      replace hB := hB.trans (hb.mono hB.size)
      clear hb
      clear hL2
      obtain ⟨V4, hV⟩ : ∃ V, V = w4.alloc (Obj.cells #[.slice q2 m1 c2] 26) := ⟨_, rfl⟩
      have KA : Blk V4 w4.heap.size 26 #[.slice q2 m1 c2] := by rw [hV]; exact Blk.made _ _ _
      have hbv : Below w4.heap.size w4 V4 := by rw [hV]; exact below_alloc1 _ _
      replace KO := KO.later hbv
      replace N0 := N0.later hbv
      replace NR := NR.later hbv
      replace N1 := N1.later hbv
      replace hB := hB.trans (hbv.mono hB.size)
      clear hbv
      have HV := Lib.hid hV
      clear hV
      have a0 : World.cell? _ ⟨w4.heap.size, 0, none⟩ = some (.slice q2 m1 c2) := KA.cell 0
      have al := KA.lt
      have o0 : World.cell? _ ⟨B4, 0, none⟩ = some (.slice q mm cap) := KO.cell 0
      have of := KO.free 0
      have ol := KO.lt
      obtain ⟨wb, hwb⟩ : ∃ x, x = (World.setCell V4 ⟨B4, 0, none⟩ (.slice q2 m1 c2)) := ⟨_, rfl⟩
      have HKO2 : Hid (Blk wb B4 26 #[.slice q2 m1 c2]) := Lib.hid (by rw [hwb]; exact KO.put 0 (.slice q2 m1 c2))
      have HN02 : Hid (Nums wb q2 c2 L2) := Lib.hid (by rw [hwb]; exact N1.far B4 0 (.slice q2 m1 c2) (N1.ne_box KO (fun z => by simp)))
      have HNR2 : Hid (Nums wb p5 c5 (r.map Int.ofNat)) := Lib.hid (by rw [hwb]; exact NR.far B4 0 (.slice q2 m1 c2) (NR.ne_box KO (fun z => by simp)))
      have HhB2 : Hid (Below w.heap.size w wb) := Lib.hid (by rw [hwb]; exact hB.setCell (p := ⟨B4, 0, none⟩) HBW.out (.slice q2 m1 c2))
      have HWB := Lib.hid hwb
      rw [HV.out] at a0 al o0 of ol
      clear hwb KO N0 NR N1 KA hB
      go_wp2_with fail
      clear a0 al o0 of ol
      rw [← HV.out, ← HWB.out]
      clear HV HWB
      obtain ⟨bb, oo, rfl, hbl, hcl⟩ := HNR2.out.block (by simp [HRLEN.out]; omega)
      have HCL : Hid (∀ wx, Below wb.heap.size wb wx → ∀ k, (h : k < r.length) → wx.cell? ⟨bb, oo + k, none⟩ = some (.int .i64 (r[k] : Int))) := Lib.hid fun wx hx k hk => by
        rw [hx.cell (p := ⟨bb, oo + k, none⟩) hbl, hcl k (by simpa using hk)]
        simp [List.getD_eq_getElem?_getD, hk]
      clear hbl hcl
      go_loopw [11, 12] (fun v11 vi wz => ∃ k cnt : Nat, vi = .int .i64 k ∧ k ≤ mm ∧ ∃ (W' : World) (vx : Value), W' = wz ∧ vx = v11 ∧ Hid (cnt = (ins (r.take k) x mm).length) ∧ Hid (W'.ownsRow wb.heap.size 3 1 vx cnt (natV (ins (r.take k) x mm))) ∧ Hid (Below wb.heap.size wb W')) (fun _ vi _ => mm - (intOf vi).toNat)
      case atStart => exact ⟨0, 0, rfl, by omega, _, _, rfl, rfl, Lib.hid rfl, Lib.hid (World.ownsRow_nil _ _ _ _), Lib.hid (Below.refl _ _)⟩
      case round =>
        obtain ⟨k, cnt, rfl, hk, wz, vx, rfl, rfl, HCN, HRO, HBE⟩ := hrel
        by_cases hkt : k < mm
        · have t1 : decide ((k : Int) < (mm : Int)) = true := by simp; omega
          have hkr : k < r.length := by rw [HRLEN.out]; exact hkt
          have hsn := ins_snoc r k x mm hkr
          have hcl := HCL.out wz HBE.out k hkr
          have HCK : Hid (∀ wx, Below wb.heap.size wb wx → wx.cell? ⟨bb, oo + k, none⟩ = some (.int .i64 (r[k] : Int))) := Lib.hid fun wx hx => HCL.out wx hx k hkr
          obtain ⟨y, hy⟩ : ∃ y, r[k] = y := ⟨_, rfl⟩
          rw [hy] at hsn hcl HCK
          have hcb : cnt ≤ 300 := by
            have h1 := ins_len_le (r.take k) x mm
            have h2 := HCN.out
            rw [List.length_take] at h1
            omega
          have hsz := HBE.out.size
          have k0 : (0 : Int) ≤ k := by omega
          have k1 : (k : Int) < mm := by omega
          clear hy hkr
          by_cases hyx : y = x
          · have m1q : ((y : Int) == (x : Int)) = true := by simp; omega
            have m2q : decide ((y : Int) = (x : Int)) = true := by simp; omega
            rw [if_pos hyx] at hsn
            have HS := Lib.hid hsn
            have HYX := Lib.hid hyx
            clear hsn hyx
            go_wp2_with (first
              | (at_builtin; refine wpList_append_own _ rfl (.tmp 57) (.tmp 62) _ rfl wb.heap.size 3 i0 (.int .i64 0) 1 8 Try.underlying24 hi0 hz0 hz1 hz2 rfl (by decide) _ cnt _ rfl (HRO.out.alloc _) ⟨wz.heap.size, 0, none⟩ 1 1 [.int .i64 y] rfl rfl (cell_one_new _ _ _) (by simp [Value.oneCell']) (by unfold maxLen; omega) (by omega) (by simp; omega) ?_; intro v8 w8 ho8 hg8 _
                 have hb8 := below_gb (HBE.out.alloc HBE.out.size _) hg8 (by simp; omega) (fun i' hi' => (HRO.out.lt i' hi').1)
                 have HRO8 := Lib.hid ho8
                 have HBE8 := Lib.hid hb8
                 have d8 := HCK.out w8 hb8
                 have hsz8 := hb8.size
                 clear ho8 hg8 hb8)
              | (at_builtin; refine wpList_append_own _ rfl (.tmp 70) (.tmp 72) _ rfl wb.heap.size 3 i0 (.int .i64 0) 1 8 Try.underlying24 hi0 hz0 hz1 hz2 rfl (by decide) _ (cnt + 1) _ rfl (HRO8.out.alloc _) ⟨w8.heap.size, 0, none⟩ 1 1 [.int .i64 mm] rfl rfl (cell_one_new _ _ _) (by simp [Value.oneCell']) (by unfold maxLen; omega) (by omega) (by simp; omega) ?_; intro v9 w9 ho9 hg9 _
                 have hb9 := below_gb (HBE8.out.alloc HBE8.out.size _) hg9 (by simp; omega) (fun i' hi' => (HRO8.out.lt i' hi').1)
                 have HRO9 := Lib.hid ho9
                 have HBE9 := Lib.hid hb9
                 clear ho9 hg9 hb9))
            have HCN2 : Hid (cnt + 1 + 1 = (ins (r.take (k + 1)) x mm).length) := Lib.hid (by rw [HS.out, List.length_append, ← HCN.out]; rfl)
            have HRO2 : Hid (World.ownsRow w9 wb.heap.size 3 1 v9 (cnt + 1 + 1) (natV (ins (r.take (k + 1)) x mm))) := Lib.hid (by
              have h1 := HRO9.out
              rw [HS.out, natV_app]
              simpa [natV] using h1)
            clear d8 t1 hcl hsz8 HRO9 HRO8
            go_roundw
            case rel => exact ⟨k + 1, cnt + 1 + 1, by simp, by omega, _, _, rfl, rfl, HCN2, HRO2, HBE9⟩
            case measure => simp [intOf]; omega
          · have m1q : ((y : Int) == (x : Int)) = false := by simp; omega
            have m2q : decide ((y : Int) = (x : Int)) = false := by simp; omega
            rw [if_neg hyx] at hsn
            have HS := Lib.hid hsn
            have HYX := Lib.hid hyx
            clear hsn hyx
            go_wp2_with (first
              | (at_builtin; refine wpList_append_own _ rfl (.tmp 57) (.tmp 62) _ rfl wb.heap.size 3 i0 (.int .i64 0) 1 8 Try.underlying24 hi0 hz0 hz1 hz2 rfl (by decide) _ cnt _ rfl (HRO.out.alloc _) ⟨wz.heap.size, 0, none⟩ 1 1 [.int .i64 y] rfl rfl (cell_one_new _ _ _) (by simp [Value.oneCell']) (by unfold maxLen; omega) (by omega) (by simp; omega) ?_; intro v8 w8 ho8 hg8 _
                 have hb8 := below_gb (HBE.out.alloc HBE.out.size _) hg8 (by simp; omega) (fun i' hi' => (HRO.out.lt i' hi').1)
                 have HRO8 := Lib.hid ho8
                 have HBE8 := Lib.hid hb8
                 have d8 := HCK.out w8 hb8
                 have hsz8 := hb8.size
                 clear ho8 hg8 hb8))
            have HCN2 : Hid (cnt + 1 = (ins (r.take (k + 1)) x mm).length) := Lib.hid (by rw [HS.out, List.length_append, ← HCN.out]; rfl)
            have HRO2 : Hid (World.ownsRow w8 wb.heap.size 3 1 v8 (cnt + 1) (natV (ins (r.take (k + 1)) x mm))) := Lib.hid (by
              have h1 := HRO8.out
              rw [HS.out, natV_app]
              simpa [natV] using h1)
            clear d8 t1 hcl hsz8 HRO8
            go_roundw
            case rel => exact ⟨k + 1, cnt + 1, by simp, by omega, _, _, rfl, rfl, HCN2, HRO2, HBE8⟩
            case measure => simp [intOf]; omega
        · have t1 : decide ((k : Int) < (mm : Int)) = false := by simp; omega
          have hkm : r.take k = r := List.take_of_length_le (by rw [HRLEN.out]; omega)
          have hcm : cnt = m1 := by have h1 := HCN.out; rw [hkm, HIS2.out.len, HLE2.out] at h1; exact h1
          have HRO2 := HRO.out
          rw [hkm] at HRO2
          subst hcm
          obtain ⟨p6, c6, rfl⟩ : ∃ p c, vx = .slice p cnt c := by
            rcases HRO2.2 with ⟨h1, h2⟩ | ⟨g8, c8, u8, h1, _⟩
            · omega
            · exact ⟨_, _, h1⟩
          have HNR3 : Hid (Nums wz p6 c6 ((ins r x mm).map Int.ofNat)) := Lib.hid (Nums.of_own HRO2).1
          have HKO3 := Lib.hid (HKO2.out.later HBE.out)
          have HN03 := Lib.hid (HN02.out.later HBE.out)
          have HhB3 := Lib.hid (HhB2.out.trans (HBE.out.mono HhB2.out.size))
          have HMJ2 : Hid (cnt = j + 1 + 1) := Lib.hid (by have h1 := HMJ.out; have h2 := HM1.out; omega)
          clear HRO2 HRO HBE hkm HCN
          go_wp2_with fail
          clear t1
          go_roundw
          case rel => exact ⟨j + 1, by first | (simp; done) | (simp; omega), by omega, _, rfl, _, _, _, _, _, _, _, rfl, HMJ2, HKO3, HN03, HLE2, HRT2, HNR3, HIS2, HhB3⟩
          case measure => simp [intOf]; omega
    · have s1 : decide ((j : Int) < (len : Int)) = false := by simp; omega
      have hmb : 1 ≤ mm ∧ mm ≤ 121 := by have := HMJ.out; omega
      have HRLEN : Hid (r.length = mm) := Lib.hid (by rw [HIS.out.len, HLE.out])
      have KO := HKO.out
      have N0 := HN0.out
      have NR := HNR.out
      have hB := HhB.out
      clear HKO HN0 HNR HhB
      have o0 : World.cell? _ ⟨B4, 0, none⟩ = some (.slice q mm cap) := KO.cell 0
      have ol := KO.lt
      have HKO := Lib.hid KO
      have HN0 := Lib.hid N0
      have HNR := Lib.hid NR
      have HhB := Lib.hid hB
      clear KO N0 NR hB
      go_wp2_with fail
      clear o0 ol s1
      have KO := HKO.out
      have N0 := HN0.out
      have NR := HNR.out
      have hB := HhB.out
      clear HKO HN0 HNR HhB
      refine (rowO_any L mm HLE.out HRT.out _ _ _ N0).mono ?_
      rintro e w4 ⟨gr, r9, rfl, hrw, N9, -, hb⟩
      replace KO := KO.later hb
      replace N0 := N0.later hb
      replace NR := NR.later hb
      replace hB := hB.trans (hb.mono hB.size)
      clear hb
      obtain rfl := hrw.unique HIS.out
      clear hrw
      have HKO := Lib.hid KO
      have HN0 := Lib.hid N0
      have HNR := Lib.hid NR
      have HN9 := Lib.hid N9
      have HhB := Lib.hid hB
      clear KO N0 NR N9 hB
      go_wp2_with fail
      have KO := HKO.out
      have N0 := HN0.out
      have NR := HNR.out
      have N9 := HN9.out
      have hB := HhB.out
      clear HKO HN0 HNR HN9 HhB
      refine (ints_eq _ _ mm _ _ (r9.map Int.ofNat) (by rw [List.length_map]; exact HRLEN.out) (by omega) _ N9 NR).mono ?_
      rintro e w5 ⟨rfl, hb⟩
      replace KO := KO.later hb
      replace N0 := N0.later hb
      replace NR := NR.later hb
      replace N9 := N9.later hb
      replace hB := hB.trans (hb.mono hB.size)
      clear hb
      clear N9
      have o0 : World.cell? _ ⟨B4, 0, none⟩ = some (.slice q mm cap) := KO.cell 0
      have ol := KO.lt
      have HKO := Lib.hid KO
      have HN0 := Lib.hid N0
      have HNR := Lib.hid NR
      have HhB := Lib.hid hB
      clear KO N0 NR hB
      go_wp2_with fail
      clear o0 ol
      have KO := HKO.out
      have N0 := HN0.out
      have NR := HNR.out
      have hB := HhB.out
      clear HKO HN0 HNR HhB
      refine (right_at L mm HLE.out (by omega) true (decide_eq_true HRT.out) _ _ _ N0).mono ?_
      rintro e w6 ⟨rfl, hb⟩
      replace KO := KO.later hb
      replace N0 := N0.later hb
      replace NR := NR.later hb
      replace hB := hB.trans (hb.mono hB.size)
      clear hb
      have o0 : World.cell? _ ⟨B4, 0, none⟩ = some (.slice q mm cap) := KO.cell 0
      have ol := KO.lt
      have HKO := Lib.hid KO
      have HN0 := Lib.hid N0
      have HNR := Lib.hid NR
      have HhB := Lib.hid hB
      clear KO N0 NR hB
      go_wp2_with fail
      clear o0 ol
      have KO := HKO.out
      have N0 := HN0.out
      have NR := HNR.out
      have hB := HhB.out
      clear HKO HN0 HNR HhB
      have HKO := Lib.hid KO
      have HN0 := Lib.hid N0
      have HNR := Lib.hid NR
      have HhB := Lib.hid hB
      clear KO N0 NR hB
      go_loopw [13] (fun vi wr => ∃ i : Nat, vi = .int .i64 i ∧ i ≤ mm ∧ Hid (1 ≤ i) ∧ ∃ W', W' = wr ∧ Hid (Blk W' (B4) 26 #[.slice q mm cap]) ∧ Hid (Nums W' q cap L) ∧ Hid (Nums W' p5 c5 (r9.map Int.ofNat)) ∧ Hid (Below w.heap.size w W')) (fun vi _ => mm - (intOf vi).toNat)
      case atStart => exact ⟨1, rfl, by omega, Lib.hid (by omega), _, rfl, HKO, HN0, HNR, HhB⟩
      case round =>
        clear HKO HN0 HNR HhB
        obtain ⟨i, rfl, hi, HI1, ws, rfl, HKO, HN0, HNR, HhB⟩ := hrel
        have KO := HKO.out
        have N0 := HN0.out
        have NR := HNR.out
        have hB := HhB.out
        clear HKO HN0 HNR HhB
        by_cases hit : i < mm
        · have t1 : decide ((i : Int) < (mm : Int)) = true := by simp; omega
          obtain ⟨im, him⟩ : ∃ k, k + 1 = i := ⟨i - 1, by have := HI1.out; omega⟩
          have e1 : (i : Int) - 1 = (im : Int) := by omega
          have e2 : IntKind.i64.wrap (im : Int) = im := by rw [IntKind.wrap_i64]; omega
          have himn : im < mm := by omega
          obtain ⟨bb, oo, rfl, hbl, hcl⟩ := NR.block (by simp [HRLEN.out]; omega)
          have h1 : im < r9.length := by rw [HRLEN.out]; exact himn
          have h2 : i < r9.length := by rw [HRLEN.out]; exact hit
          have q1 := hcl im (by simpa using h1)
          have q2 := hcl i (by simpa using h2)
          have hlt := List.pairwise_iff_getElem.1 HIS.out.asc im i h1 h2 (by omega)
          have hx1 := HIS.out.lt im h1
          have hx2 := HIS.out.lt i h2
          obtain ⟨x1, hx1e⟩ : ∃ z, r9[im] = z := ⟨_, rfl⟩
          obtain ⟨x2, hx2e⟩ : ∃ z, r9[i] = z := ⟨_, rfl⟩
          rw [hx1e, hx2e] at hlt
          rw [hx1e] at hx1
          rw [hx2e] at hx2
          rw [HLE.out] at hx1 hx2
          have q1 : ws.cell? ⟨bb, oo + im, none⟩ = some (.int .i64 (x1 : Int)) := by rw [q1, ← hx1e]; simp [List.getD_eq_getElem?_getD, h1]
          have q2 : ws.cell? ⟨bb, oo + i, none⟩ = some (.int .i64 (x2 : Int)) := by rw [q2, ← hx2e]; simp [List.getD_eq_getElem?_getD, h2]
          have g1 : ∀ y : After ws, World.cell? y.w ⟨bb, oo + im, none⟩ = some (.int .i64 (x1 : Int)) := fun y => (y.cell hbl).trans q1
          have g2 : ∀ y : After ws, World.cell? y.w ⟨bb, oo + i, none⟩ = some (.int .i64 (x2 : Int)) := fun y => (y.cell hbl).trans q2
          have HIM := Lib.hid him
          clear hcl hx1e hx2e h1 h2 him
          have i1 : (0 : Int) ≤ i := by omega
          have i2 : (i : Int) < mm := by omega
          have i3 : (0 : Int) ≤ im := by omega
          have i4 : (im : Int) < mm := by omega
          have hp : decide (L.getD x1 0 < L.getD x2 0) = true := decide_eq_true hlt
          have hq : decide (L.getD x2 0 < L.getD x1 0) = false := decide_eq_false (by omega)
          clear hlt
          have hcur : Below ws.heap.size ws ws := Below.refl _ _
          have u0 := fun (y : After ws) => (y.cell KO.lt).trans (KO.cell 0)
          have u0 : ∀ y : After ws, World.cell? y.w ⟨B4, 0, none⟩ = some (.slice q mm cap) := u0
          have HQ0 := Lib.hid fun (y : After ws) => before_at L mm HLE.out HRT.out _ _ x1 x2 x1 x2 true rfl rfl hx1 hx2 hp y.w (N0.later y.bel)
          have HQ1 := Lib.hid fun (y : After ws) => before_at L mm HLE.out HRT.out _ _ x2 x1 x2 x1 false rfl rfl hx2 hx1 hq y.w (N0.later y.bel)
          clear hcur
          have HKO := Lib.hid KO
          have HN0 := Lib.hid N0
          have HNR := Lib.hid NR
          have HhB := Lib.hid hB
          clear KO N0 NR hB
          go_wp2_with fail
          refine wp_region_after (by kernel_rfl) (by kernel_rfl) ?_
          repeat (go_big_quiet_step (first | (go_at_call 14; with_reducible exact calls_after (HQ0.out _)) | (go_at_call 14; with_reducible exact calls_after (HQ1.out _))))
          refine wpQuiet_nil ?_
          rintro _ ⟨y, rfl⟩
          have KO := HKO.out
          have N0 := HN0.out
          have NR := HNR.out
          have hB := HhB.out
          clear HKO HN0 HNR HhB
          obtain ⟨w7, hX⟩ : ∃ X, X = y.w := ⟨_, rfl⟩
          have hb := y.bel
          rw [← hX] at hb
          rw [← hX]
          clear hX u0 HQ0 HQ1
          clear y
          replace KO := KO.later hb
          replace N0 := N0.later hb
          replace NR := NR.later hb
          replace hB := hB.trans (hb.mono hB.size)
          clear hb
          clear hp hq t1 g1 g2 q1 q2
          have HKO := Lib.hid KO
          have HN0 := Lib.hid N0
          have HNR := Lib.hid NR
          have HhB := Lib.hid hB
          clear KO N0 NR hB
          go_wp2_with fail
          have KO := HKO.out
          have N0 := HN0.out
          have NR := HNR.out
          have hB := HhB.out
          clear HKO HN0 HNR HhB
          have HI1 : Hid (1 ≤ i + 1) := Lib.hid (by omega)
          have HKO := Lib.hid KO
          have HN0 := Lib.hid N0
          have HNR := Lib.hid NR
          have HhB := Lib.hid hB
          clear KO N0 NR hB
          go_roundw
          case rel => exact ⟨i + 1, by simp, by omega, HI1, _, rfl, HKO, HN0, HNR, HhB⟩
          case measure => simp [intOf]; omega
        · have t1 : decide ((i : Int) < (mm : Int)) = false := by simp; omega
          have HKO := Lib.hid KO
          have HN0 := Lib.hid N0
          have HNR := Lib.hid NR
          have HhB := Lib.hid hB
          clear KO N0 NR hB
          go_wp2_with fail
          clear t1
          have KO := HKO.out
          have N0 := HN0.out
          have NR := HNR.out
          have hB := HhB.out
          clear HKO HN0 HNR HhB
          go_ret
          exact ⟨rfl, hB⟩
end Go.Proofs.Ytpikiehipeecoaa
