/-
  TRACE: the law TraceSealed.
-/
import Derived.Test.YtbfbfpjfmdannaaTrM
import Derived.OwnWalk
namespace Go.Proofs.Ytbfbfpjfmdannaa
open Go.ChangeShapes Go.WideShapes Go.ChangeAt Go.RowKit

set_option maxRecDepth 100000 in
set_option maxHeartbeats 8000000 in
theorem walkTraceSealed (p : Option Addr) (cap : Nat) (l : List EvV) (a b : Int) (w : World) (E0 : EvsR w p l) (hm : l.length ≤ maxLen) (hk : l.length ≤ cap) (hn : p = none → cap = 0) (ha : 0 ≤ a ∧ a ≤ 65535) (hb8 : 0 ≤ b ∧ b ≤ 255) :
    Calls Try.prog 6 #[.slice p l.length cap, .int .u16 a, .int .u8 b] w fun e w' => e = .returned (.bool true) ∧ Below w.heap.size w w' := by
  obtain ⟨n, hn0⟩ : ∃ n, l.length = n := ⟨_, rfl⟩
  have HL := Lib.hid hn0
  have hB := Below.refl w.heap.size w
  rw [hn0] at hm hk ⊢
  clear hn0 hm
  go_enter Try.func6, Try.ntmps6
  have HE0 := Lib.hid E0
  have HhB := Lib.hid hB
  clear E0 hB
  go_wp2_with fail
  have E0 := HE0.out
  have hB := HhB.out
  clear HE0 HhB
  refine (awake_any _).mono ?_
  rintro e w1 ⟨rfl, hb⟩
  replace E0 := E0.later hb
  replace hB := hB.trans (hb.mono hB.size)
  clear hb
  by_cases h60 : 60 < n
  · have d1 : decide (60 < (n : Int)) = true := by simp; omega
    have HE0 := Lib.hid E0
    have HhB := Lib.hid hB
    clear E0 hB
    go_wp2_with fail
    have E0 := HE0.out
    have hB := HhB.out
    clear HE0 HhB
    go_ret
    exact ⟨rfl, hB⟩
  have d1 : decide (60 < (n : Int)) = false := by simp; omega
  by_cases hb0 : b = 0
  · subst hb0
    have HE0 := Lib.hid E0
    have HhB := Lib.hid hB
    clear E0 hB
    go_wp2_with fail
    have E0 := HE0.out
    have hB := HhB.out
    clear HE0 HhB
    go_ret
    exact ⟨rfl, hB⟩
  have b1 : (b == 0) = false := by simp; omega
  have hin := evNums_in E0.rng
  obtain ⟨inn, hinn⟩ : ∃ s, numsF (evNums l) = s := ⟨_, rfl⟩
  obtain ⟨se, hse⟩ : ∃ se, trBytes l = se := ⟨_, rfl⟩
  have hsl := trBytes_len hin (by rw [HL.out]; omega)
  have hnl := numsF_len hin (by rw [HL.out]; omega)
  rw [hse] at hsl
  rw [hinn] at hnl
  have hsi : se = sealF inn := by rw [← hse, ← hinn]; rfl
  have hop : openF se = some (inn, se.length) := by
    have h := openF_whole inn [] (by omega)
    rw [List.append_nil, ← hsi] at h
    exact h
  have h3 := sealF_len3 (xs := inn) (by omega)
  rw [← hsi] at h3
  have hi1 : 1 ≤ inn.length := by
    rw [← hinn]; unfold numsF; rw [List.length_append]; have := putF_pos (zig ((evNums l).length : Nat)); omega
  obtain ⟨H, hH⟩ : ∃ H, (putF (zig (inn.length : Nat))).length = H := ⟨_, rfl⟩
  rw [hH] at h3
  have HSE := Lib.hid hse
  have HSI := Lib.hid hsi
  have HOP := Lib.hid hop
  have HH := Lib.hid hH
  obtain ⟨hs1, hs2⟩ := hsl
  obtain ⟨h31, h32⟩ := h3
  obtain ⟨k, hkk⟩ : ∃ k : Nat, Int.tmod a (inn.length : Int) = (k : Int) := ⟨(Int.tmod a (inn.length : Int)).toNat, by rw [Int.tmod_eq_emod_of_nonneg ha.1]; exact (Int.toNat_of_nonneg (Int.emod_nonneg a (by omega))).symm⟩
  have hk : k < inn.length := by rw [Int.tmod_eq_emod_of_nonneg ha.1] at hkk; have := Int.emod_lt_of_pos a (show (0 : Int) < (inn.length : Int) by omega); rw [hkk] at this; exact Int.ofNat_lt.1 this
  have wk : IntKind.i64.wrap (k : Int) = k := by rw [IntKind.wrap_i64]; omega
  have nz : (inn.length : Int) ≠ 0 := by omega
  have nz2 : ((inn.length : Int) == 0) = false := by simpa using nz
  have nz3 : ¬ inn.length = 0 := by omega
  have nz4 : (inn.length == 0) = false := by simpa using nz3
  have ngt : ¬ (se.length < H + inn.length) := by omega
  have ngt2 : decide ((se.length : Int) < (H : Int) + (inn.length : Int)) = false := by simp; omega
  clear hin hse hinn hsi hop hH
  have HE0 := Lib.hid E0
  have HhB := Lib.hid hB
  clear E0 hB
  go_wp2_with fail
  have E0 := HE0.out
  have hB := HhB.out
  clear HE0 HhB
  refine (bytes_se p l n cap se HL.out (by omega) HSE.out _ E0).mono ?_
  rintro e w2 ⟨pb, cb, rfl, XB, hcb, hpb, hb⟩
  replace E0 := E0.later hb
  replace hB := hB.trans (hb.mono hB.size)
  clear hb
  have HE0 := Lib.hid E0
  have HXB := Lib.hid XB
  have HhB := Lib.hid hB
  clear E0 XB hB
  go_wp2_with fail
  have E0 := HE0.out
  have XB := HXB.out
  have hB := HhB.out
  clear HE0 HXB HhB
  refine (Open_any pb se cb _ XB (by omega) hcb hpb).mono ?_
  rintro e w3 ⟨hb, ⟨ho, rfl⟩ | ⟨inn2, at_, q, cq, ho, hat, hil, rfl, XI, hic, hin⟩⟩
  · rw [HOP.out] at ho; cases ho
  rw [HOP.out] at ho
  obtain ⟨rfl, rfl⟩ := Prod.mk.inj (Option.some.inj ho)
  clear ho hat hil XI hic hin
  replace E0 := E0.later hb
  replace XB := XB.later hb
  replace hB := hB.trans (hb.mono hB.size)
  clear hb
  have HE0 := Lib.hid E0
  have HXB := Lib.hid XB
  have HhB := Lib.hid hB
  clear E0 XB hB
  go_wp2_with fail
  have E0 := HE0.out
  have XB := HXB.out
  have hB := HhB.out
  clear HE0 HXB HhB
  refine (Put_any (inn.length : Int) _ (by unfold In64; omega)).mono ?_
  rintro e w4 hpp
  obtain ⟨p4, c4, rfl, -, -, -, hb⟩ := hpp.slice rfl HH.out
  clear hpp
  replace E0 := E0.later hb
  replace XB := XB.later hb
  replace hB := hB.trans (hb.mono hB.size)
  clear hb
  have hkse : H + k < se.length := by omega
  have hrX := getD_in8 XB.rng (H + k) hkse
  obtain ⟨X, hX⟩ : ∃ X, se.getD (H + k) 0 = X := ⟨_, rfl⟩
  have hXi : inn.getD k 0 = X := by
    have h := seal_at inn k hk
    rw [HH.out, ← HSI.out, hX] at h
    exact h.symm
  rw [hX] at hrX
  unfold In8 at hrX
  obtain ⟨Y, hY⟩ : ∃ Y, (X + b) % 256 = Y := ⟨_, rfl⟩
  have wY : IntKind.u8.wrap (X + b) = Y := by rw [← hY]; exact u8_wrap _
  have hrY : In8 Y := by unfold In8; omega
  have hYX : Y ≠ X := by omega
  have hno : openF (se.set (H + k) Y) = none := by
    have h := seal_set_none inn k hk Y (openF_canon XB.rng HOP.out).2 hrY (by rw [hXi]; exact hYX) (by omega)
    rw [HH.out, ← HSI.out] at h
    exact h
  have HNO := Lib.hid hno
  obtain ⟨K, hK⟩ : ∃ K, H + k = K := ⟨_, rfl⟩
  rw [hK] at hX hkse HNO
  have wK : (H : Int) + (k : Int) = (K : Int) := by omega
  have HX := Lib.hid hX
  have HRY := Lib.hid hrY
  have HSM := Lib.hid (bel_alloc (Below.refl w4.heap.size w4) (Obj.cells #[] 5)).size
  clear hY hrY hno hXi hYX hK
  have HE0 := Lib.hid E0
  have HXB := Lib.hid XB
  have HhB := Lib.hid hB
  clear E0 XB hB
  go_wp2_with (at_builtin; refine wpList_append_byts rfl (.tmp 54) (.tmp 55) rfl w4.heap.size _ [] rfl (OwnB.made0 w4) pb se cb rfl (HXB.out.later (bel_alloc (Below.refl _ _) _)) hpb (by simp; omega) HSM.out ?_; intro v6 wc T6 B6 G6; rw [List.nil_append] at T6; obtain ⟨g, c6, rfl, hgb, k6, f6⟩ := T6.full K hkse; rw [hX] at k6)
  have E0 := HE0.out
  have XB := HXB.out
  have hB := HhB.out
  clear HE0 HXB HhB
  have hb6 := bel_base (Nat.le_refl _) (bel_alloc (Below.refl w4.heap.size w4) (Obj.cells #[] 5)) B6
  obtain ⟨WX, hWX⟩ : ∃ W, W = wc.setCell ⟨g, K, none⟩ (.int .u8 Y) := ⟨_, rfl⟩
  have hbx : Below w4.heap.size w4 WX := by rw [hWX]; exact hb6.setCell hgb _
  obtain ⟨XC, hc6⟩ := T6.turned K Y HRY.out
  rw [← hWX] at XC ⊢
  clear hWX T6 B6 G6 hb6 k6 f6 hX wY wK
  replace E0 := E0.later hbx
  replace XB := XB.later hbx
  replace hB := hB.trans (hbx.mono hB.size)
  clear hbx
  have HCL : Hid ((se.set K Y).length = se.length) := Lib.hid List.length_set
  refine (parse_at (some ⟨g, 0, none⟩) (se.set K Y) se.length c6 HCL.out (by omega) hc6 (by simp) WX XC).mono ?_
  rintro e w9 hpp
  obtain ⟨q9, d9, rfl, -, hb⟩ := hpp.no (trParse_open_none HNO.out)
  clear hpp
  replace E0 := E0.later hb
  replace XB := XB.later hb
  replace XC := XC.later hb
  replace hB := hB.trans (hb.mono hB.size)
  clear hb
  have HE0 := Lib.hid E0
  have HXB := Lib.hid XB
  have HXC := Lib.hid XC
  have HhB := Lib.hid hB
  clear E0 XB XC hB
  go_wp2_with fail
  have E0 := HE0.out
  have XB := HXB.out
  have XC := HXC.out
  have hB := HhB.out
  clear HE0 HXB HXC HhB
  go_ret
  exact ⟨rfl, hB⟩
end Go.Proofs.Ytbfbfpjfmdannaa
