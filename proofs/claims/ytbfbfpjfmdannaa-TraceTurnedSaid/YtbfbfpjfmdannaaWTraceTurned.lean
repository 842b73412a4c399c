/-
  TRACE: the law TraceTurned.
-/
import Derived.Test.YtbfbfpjfmdannaaTrL
import Derived.OwnWalk
namespace Go.Proofs.Ytbfbfpjfmdannaa
open Go.ChangeShapes Go.WideShapes Go.ChangeAt Go.RowKit

set_option maxRecDepth 100000 in
set_option maxHeartbeats 8000000 in
theorem walkTraceTurned (p : Option Addr) (cap : Nat) (l : List EvV) (a b c : Int) (w : World) (E0 : EvsR w p l) (hm : l.length ≤ maxLen) (hk : l.length ≤ cap) (hn : p = none → cap = 0) (ha : 0 ≤ a ∧ a ≤ 65535) (hb8 : 0 ≤ b ∧ b ≤ 255) (hc8 : 0 ≤ c ∧ c ≤ 255) :
    Calls Try.prog 5 #[.slice p l.length cap, .int .u16 a, .int .u8 b, .int .u8 c] w fun e w' => e = .returned (.bool true) ∧ Below w.heap.size w w' := by
  obtain ⟨n, hn0⟩ : ∃ n, l.length = n := ⟨_, rfl⟩
  have HL := Lib.hid hn0
  have hB := Below.refl w.heap.size w
  rw [hn0] at hm hk ⊢
  clear hn0 hm
  go_enter Try.func5, Try.ntmps5
  have HE0 := Lib.hid E0
  have HhB := Lib.hid hB
  clear E0 hB
  go_wp2_with fail
  have E0 := HE0.out
  have hB := HhB.out
  clear HE0 HhB
  refine (awake_any _).mono ?_
  rintro e w1 ⟨rfl, hb⟩
  replace E0 := E0.later hb
  replace hB := hB.trans (hb.mono hB.size)
  clear hb
  by_cases h60 : 60 < n
  · have d1 : decide (60 < (n : Int)) = true := by simp; omega
    have HE0 := Lib.hid E0
    have HhB := Lib.hid hB
    clear E0 hB
    go_wp2_with fail
    have E0 := HE0.out
    have hB := HhB.out
    clear HE0 HhB
    go_ret
    exact ⟨rfl, hB⟩
  have d1 : decide (60 < (n : Int)) = false := by simp; omega
  have hin := evNums_in E0.rng
  obtain ⟨se, hse⟩ : ∃ se, trBytes l = se := ⟨_, rfl⟩
  have hsl := trBytes_len hin (by rw [HL.out]; omega)
  rw [hse] at hsl
  have HSE := Lib.hid hse
  have HPA := Lib.hid (trParse_bytes hin (by rw [HL.out]; omega))
  have HPL := Lib.hid (fun x => trParse_long hin (by rw [HL.out]; omega) x)
  have HPS := Lib.hid (fun k (h : k < (trBytes l).length) => trParse_short hin (by rw [HL.out]; omega) h)
  rw [hse] at HPA HPL HPS
  obtain ⟨hs1, hs2⟩ := hsl
  obtain ⟨k, hkk⟩ : ∃ k : Nat, Int.tmod a (se.length : Int) = (k : Int) := ⟨(Int.tmod a (se.length : Int)).toNat, by rw [Int.tmod_eq_emod_of_nonneg ha.1]; exact (Int.toNat_of_nonneg (Int.emod_nonneg a (by omega))).symm⟩
  have hk : k < se.length := by rw [Int.tmod_eq_emod_of_nonneg ha.1] at hkk; have := Int.emod_lt_of_pos a (show (0 : Int) < (se.length : Int) by omega); rw [hkk] at this; exact Int.ofNat_lt.1 this
  have wk : IntKind.i64.wrap (k : Int) = k := by rw [IntKind.wrap_i64]; omega
  have nz : (se.length : Int) ≠ 0 := by omega
  have nz2 : ((se.length : Int) == 0) = false := by simpa using nz
  have nz3 : ¬ se.length = 0 := by omega
  have nz4 : (se.length == 0) = false := by simpa using nz3
  clear hin hse
  have HE0 := Lib.hid E0
  have HhB := Lib.hid hB
  clear E0 hB
  go_wp2_with fail
  have E0 := HE0.out
  have hB := HhB.out
  clear HE0 HhB
  refine (bytes_se p l n cap se HL.out (by omega) HSE.out _ E0).mono ?_
  rintro e w2 ⟨pb, cb, rfl, XB, hcb, hpb, hb⟩
  replace E0 := E0.later hb
  replace hB := hB.trans (hb.mono hB.size)
  clear hb
  have hrX := getD_in8 XB.rng k hk
  obtain ⟨X, hX⟩ : ∃ X, se.getD k 0 = X := ⟨_, rfl⟩
  rw [hX] at hrX
  unfold In8 at hrX
  obtain ⟨Y, hY⟩ : ∃ Y, (X + b) % 256 = Y := ⟨_, rfl⟩
  have wY : IntKind.u8.wrap (X + b) = Y := by rw [← hY]; exact u8_wrap _
  have hrY : In8 Y := by unfold In8; omega
  have HX := Lib.hid hX
  have HY := Lib.hid hY
  have HRY := Lib.hid hrY
  have HSM := Lib.hid (bel_alloc (Below.refl w2.heap.size w2) (Obj.cells #[] 5)).size
  clear hY hrY
  have HE0 := Lib.hid E0
  have HXB := Lib.hid XB
  have HhB := Lib.hid hB
  clear E0 XB hB
  go_wp2_with (at_builtin; refine wpList_append_byts rfl (.tmp 35) (.tmp 36) rfl w2.heap.size _ [] rfl (OwnB.made0 w2) pb se cb rfl (HXB.out.later (bel_alloc (Below.refl _ _) _)) hpb (by simp; omega) HSM.out ?_; intro v6 w6 T6 B6 G6; rw [List.nil_append] at T6; obtain ⟨g, c6, rfl, hgb, k6, f6⟩ := T6.full k hk; rw [hX] at k6)
  have E0 := HE0.out
  have XB := HXB.out
  have hB := HhB.out
  clear HE0 HXB HhB
  have hb6 := bel_base (Nat.le_refl _) (bel_alloc (Below.refl w2.heap.size w2) (Obj.cells #[] 5)) B6
  obtain ⟨WX, hWX⟩ : ∃ W, W = w6.setCell ⟨g, k, none⟩ (.int .u8 Y) := ⟨_, rfl⟩
  have hbx : Below w2.heap.size w2 WX := by rw [hWX]; exact hb6.setCell hgb _
  obtain ⟨XC, hc6⟩ := T6.turned k Y HRY.out
  rw [← hWX] at XC ⊢
  clear hWX T6 B6 G6 hb6 k6 f6 hX wY
  replace E0 := E0.later hbx
  replace XB := XB.later hbx
  replace hB := hB.trans (hbx.mono hB.size)
  clear hbx
  have hcl : (se.set k Y).length = se.length := List.length_set
  have HCL := Lib.hid hcl
  clear hcl
  refine (parse_at (some ⟨g, 0, none⟩) (se.set k Y) se.length c6 HCL.out (by omega) hc6 (by simp) WX XC).mono ?_
  rintro e w7 hpp
  by_cases hb0 : b = 0
  · subst hb0
    have hYX : Y = X := by have := HY.out; rw [Int.add_zero] at this; omega
    have hpx : trParse (se.set k Y) = some l := by rw [hYX, ← HX.out, set_same hk]; exact HPA.out
    obtain ⟨q1, c1, rfl, A1, hb⟩ := hpp.at hpx
    clear hpp hpx hYX
    rw [HL.out]
    replace E0 := E0.later hb
    replace XB := XB.later hb
    replace XC := XC.later hb
    replace hB := hB.trans (hb.mono hB.size)
    clear hb
    have HE0 := Lib.hid E0
    have HXB := Lib.hid XB
    have HXC := Lib.hid XC
    have HA1 := Lib.hid A1
    have HhB := Lib.hid hB
    clear E0 XB XC A1 hB
    go_wp2_with fail
    have E0 := HE0.out
    have XB := HXB.out
    have XC := HXC.out
    have A1 := HA1.out
    have hB := HhB.out
    clear HE0 HXB HXC HA1 HhB
    refine (same_any l l n n HL.out HL.out (by omega) (by omega) true (decide_eq_true rfl) _ _ _ _ _ A1.rows E0.rows).mono ?_
    rintro e w8 ⟨rfl, hb⟩
    replace E0 := E0.later hb
    replace XB := XB.later hb
    replace XC := XC.later hb
    replace A1 := A1.later hb
    replace hB := hB.trans (hb.mono hB.size)
    clear hb
    have HSM := Lib.hid (bel_alloc (Below.refl w8.heap.size w8) (Obj.cells #[] 5)).size
    obtain ⟨sl, hsl⟩ : ∃ s, se ++ [c] = s := ⟨_, rfl⟩
    have HSLL := Lib.hid hsl
    clear hsl
    have HE0 := Lib.hid E0
    have HXB := Lib.hid XB
    have HXC := Lib.hid XC
    have HA1 := Lib.hid A1
    have HhB := Lib.hid hB
    clear E0 XB XC A1 hB
    go_wp2_with (first
      | (at_builtin
         refine wpList_append_byts rfl (.tmp 60) (.tmp 61) rfl w8.heap.size _ [] rfl (OwnB.made0 w8) pb se cb rfl (HXB.out.later (bel_alloc (Below.refl _ _) _)) hpb (by simp; omega) HSM.out ?_
         intro vA wA T8 B8 G8
         rw [List.nil_append] at T8
         have HB8 := Lib.hid (bel_base (Nat.le_refl _) (bel_alloc (Below.refl w8.heap.size w8) (Obj.cells #[] 5)) B8)
         have HT8 := Lib.hid (T8.alloc (Obj.cells #[.int .u8 c] 5))
         clear T8 B8 G8)
      | (at_builtin
         refine wpList_append_byts rfl (.tmp 62) (.tmp 64) rfl w8.heap.size vA se rfl HT8.out (some ⟨wA.heap.size, 0, none⟩) [c] 1 rfl (byts_one wA c hc8) (by simp) (by simp; omega) (bel_alloc HB8.out _).size ?_
         intro vB wB T9 B9 G9
         rw [HSLL.out] at T9
         obtain ⟨p9, c9, rfl, x9, hc9, hp9⟩ := T9.fits
         clear T9 G9))
    have E0 := HE0.out
    have XB := HXB.out
    have XC := HXC.out
    have A1 := HA1.out
    have hB := HhB.out
    clear HE0 HXB HXC HA1 HhB
    have hb9 := bel_base (Nat.le_refl _) (bel_alloc HB8.out (Obj.cells #[.int .u8 c] 5)) B9
    clear B9 HT8 HB8
    replace E0 := E0.later hb9
    replace XB := XB.later hb9
    replace XC := XC.later hb9
    replace A1 := A1.later hb9
    replace hB := hB.trans (hb9.mono hB.size)
    clear hb9
    have hsl9 : sl.length = se.length + 1 := by rw [← HSLL.out]; simp
    have HS9 := Lib.hid hsl9
    clear hsl9
    refine (parse_at p9 sl sl.length c9 rfl (by have := HS9.out; omega) hc9 hp9 wB x9).mono ?_
    rintro e w10 hpp
    obtain ⟨q9, d9, rfl, -, hb⟩ := hpp.no (by rw [← HSLL.out]; exact HPL.out c)
    clear hpp
    replace E0 := E0.later hb
    replace XB := XB.later hb
    replace XC := XC.later hb
    replace A1 := A1.later hb
    replace x9 := x9.later hb
    replace hB := hB.trans (hb.mono hB.size)
    clear hb
    have HE0 := Lib.hid E0
    have HXB := Lib.hid XB
    have HXC := Lib.hid XC
    have HA1 := Lib.hid A1
    have Hx9 := Lib.hid x9
    have HhB := Lib.hid hB
    clear E0 XB XC A1 x9 hB
    go_wp2_with fail
    have E0 := HE0.out
    have XB := HXB.out
    have XC := HXC.out
    have A1 := HA1.out
    have x9 := Hx9.out
    have hB := HhB.out
    clear HE0 HXB HXC HA1 Hx9 HhB
    refine (parse_at pb (se.take k) k cb (by rw [List.length_take]; omega) (by omega) (by omega) hpb _ (XB.take k)).mono ?_
    rintro e w11 hpp
    obtain ⟨q10, d10, rfl, -, hb⟩ := hpp.no (HPS.out k hk)
    clear hpp
    replace E0 := E0.later hb
    replace XB := XB.later hb
    replace XC := XC.later hb
    replace A1 := A1.later hb
    replace x9 := x9.later hb
    replace hB := hB.trans (hb.mono hB.size)
    clear hb
    have HE0 := Lib.hid E0
    have HXB := Lib.hid XB
    have HXC := Lib.hid XC
    have HA1 := Lib.hid A1
    have Hx9 := Lib.hid x9
    have HhB := Lib.hid hB
    clear E0 XB XC A1 x9 hB
    go_wp2_with fail
    have E0 := HE0.out
    have XB := HXB.out
    have XC := HXC.out
    have A1 := HA1.out
    have x9 := Hx9.out
    have hB := HhB.out
    clear HE0 HXB HXC HA1 Hx9 HhB
    go_ret
    exact ⟨rfl, hB⟩
  have b1 : (b == 0) = false := by simp; omega
  have hYX : Y ≠ X := by have := HY.out; omega
  have hcne : se.set k Y ≠ se := set_ne hk (by rw [HX.out]; exact hYX)
  cases hpx : trParse (se.set k Y) with
  | none =>
    obtain ⟨q1, c1, rfl, A1, hb⟩ := hpp.no hpx
    clear hpp hpx hcne hYX
    replace E0 := E0.later hb
    replace XB := XB.later hb
    replace XC := XC.later hb
    replace hB := hB.trans (hb.mono hB.size)
    clear hb
    have HSM := Lib.hid (bel_alloc (Below.refl w7.heap.size w7) (Obj.cells #[] 5)).size
    obtain ⟨sl, hsl⟩ : ∃ s, se ++ [c] = s := ⟨_, rfl⟩
    have HSLL := Lib.hid hsl
    clear hsl
    have HE0 := Lib.hid E0
    have HXB := Lib.hid XB
    have HXC := Lib.hid XC
    have HhB := Lib.hid hB
    clear E0 XB XC hB
    go_wp2_with (first
      | (at_builtin
         refine wpList_append_byts rfl (.tmp 60) (.tmp 61) rfl w7.heap.size _ [] rfl (OwnB.made0 w7) pb se cb rfl (HXB.out.later (bel_alloc (Below.refl _ _) _)) hpb (by simp; omega) HSM.out ?_
         intro vA wA T8 B8 G8
         rw [List.nil_append] at T8
         have HB8 := Lib.hid (bel_base (Nat.le_refl _) (bel_alloc (Below.refl w7.heap.size w7) (Obj.cells #[] 5)) B8)
         have HT8 := Lib.hid (T8.alloc (Obj.cells #[.int .u8 c] 5))
         clear T8 B8 G8)
      | (at_builtin
         refine wpList_append_byts rfl (.tmp 62) (.tmp 64) rfl w7.heap.size vA se rfl HT8.out (some ⟨wA.heap.size, 0, none⟩) [c] 1 rfl (byts_one wA c hc8) (by simp) (by simp; omega) (bel_alloc HB8.out _).size ?_
         intro vB wB T9 B9 G9
         rw [HSLL.out] at T9
         obtain ⟨p9, c9, rfl, x9, hc9, hp9⟩ := T9.fits
         clear T9 G9))
    have E0 := HE0.out
    have XB := HXB.out
    have XC := HXC.out
    have hB := HhB.out
    clear HE0 HXB HXC HhB
    have hb9 := bel_base (Nat.le_refl _) (bel_alloc HB8.out (Obj.cells #[.int .u8 c] 5)) B9
    clear B9 HT8 HB8
    replace E0 := E0.later hb9
    replace XB := XB.later hb9
    replace XC := XC.later hb9
    replace hB := hB.trans (hb9.mono hB.size)
    clear hb9
    have hsl9 : sl.length = se.length + 1 := by rw [← HSLL.out]; simp
    have HS9 := Lib.hid hsl9
    clear hsl9
    refine (parse_at p9 sl sl.length c9 rfl (by have := HS9.out; omega) hc9 hp9 wB x9).mono ?_
    rintro e w9 hpp
    obtain ⟨q9, d9, rfl, -, hb⟩ := hpp.no (by rw [← HSLL.out]; exact HPL.out c)
    clear hpp
    replace E0 := E0.later hb
    replace XB := XB.later hb
    replace XC := XC.later hb
    replace x9 := x9.later hb
    replace hB := hB.trans (hb.mono hB.size)
    clear hb
    have HE0 := Lib.hid E0
    have HXB := Lib.hid XB
    have HXC := Lib.hid XC
    have Hx9 := Lib.hid x9
    have HhB := Lib.hid hB
    clear E0 XB XC x9 hB
    go_wp2_with fail
    have E0 := HE0.out
    have XB := HXB.out
    have XC := HXC.out
    have x9 := Hx9.out
    have hB := HhB.out
    clear HE0 HXB HXC Hx9 HhB
    refine (parse_at pb (se.take k) k cb (by rw [List.length_take]; omega) (by omega) (by omega) hpb _ (XB.take k)).mono ?_
    rintro e w10 hpp
    obtain ⟨q10, d10, rfl, -, hb⟩ := hpp.no (HPS.out k hk)
    clear hpp
    replace E0 := E0.later hb
    replace XB := XB.later hb
    replace XC := XC.later hb
    replace x9 := x9.later hb
    replace hB := hB.trans (hb.mono hB.size)
    clear hb
    have HE0 := Lib.hid E0
    have HXB := Lib.hid XB
    have HXC := Lib.hid XC
    have Hx9 := Lib.hid x9
    have HhB := Lib.hid hB
    clear E0 XB XC x9 hB
    go_wp2_with fail
    have E0 := HE0.out
    have XB := HXB.out
    have XC := HXC.out
    have x9 := Hx9.out
    have hB := HhB.out
    clear HE0 HXB HXC Hx9 HhB
    go_ret
    exact ⟨rfl, hB⟩
  | some x =>
    obtain ⟨q1, c1, rfl, A1, hb⟩ := hpp.at hpx
    obtain ⟨M, hM⟩ : ∃ M, x.length = M := ⟨_, rfl⟩
    have hby := trBytes_parse XC.rng hpx
    have hge := trBytes_ge x
    rw [hby, HCL.out, hM] at hge
    have hne : x ≠ l := fun e => hcne (by rw [← hby, e, HSE.out])
    rw [hM]
    have hM2 : M ≤ 100000 := by omega
    have HM := Lib.hid hM
    have HNE := Lib.hid hne
    clear hpp hpx hcne hYX hby hge hM hne
    replace E0 := E0.later hb
    replace XB := XB.later hb
    replace XC := XC.later hb
    replace hB := hB.trans (hb.mono hB.size)
    clear hb
    have HE0 := Lib.hid E0
    have HXB := Lib.hid XB
    have HXC := Lib.hid XC
    have HA1 := Lib.hid A1
    have HhB := Lib.hid hB
    clear E0 XB XC A1 hB
    go_wp2_with fail
    have E0 := HE0.out
    have XB := HXB.out
    have XC := HXC.out
    have A1 := HA1.out
    have hB := HhB.out
    clear HE0 HXB HXC HA1 HhB
    refine (same_any x l M n HM.out HL.out (by omega) (by omega) false (decide_eq_false HNE.out) _ _ _ _ _ A1.rows E0.rows).mono ?_
    rintro e w8 ⟨rfl, hb⟩
    replace E0 := E0.later hb
    replace XB := XB.later hb
    replace XC := XC.later hb
    replace A1 := A1.later hb
    replace hB := hB.trans (hb.mono hB.size)
    clear hb
    have HSM := Lib.hid (bel_alloc (Below.refl w8.heap.size w8) (Obj.cells #[] 5)).size
    obtain ⟨sl, hsl⟩ : ∃ s, se ++ [c] = s := ⟨_, rfl⟩
    have HSLL := Lib.hid hsl
    clear hsl
    have HE0 := Lib.hid E0
    have HXB := Lib.hid XB
    have HXC := Lib.hid XC
    have HA1 := Lib.hid A1
    have HhB := Lib.hid hB
    clear E0 XB XC A1 hB
    go_wp2_with (first
      | (at_builtin
         refine wpList_append_byts rfl (.tmp 60) (.tmp 61) rfl w8.heap.size _ [] rfl (OwnB.made0 w8) pb se cb rfl (HXB.out.later (bel_alloc (Below.refl _ _) _)) hpb (by simp; omega) HSM.out ?_
         intro vA wA T8 B8 G8
         rw [List.nil_append] at T8
         have HB8 := Lib.hid (bel_base (Nat.le_refl _) (bel_alloc (Below.refl w8.heap.size w8) (Obj.cells #[] 5)) B8)
         have HT8 := Lib.hid (T8.alloc (Obj.cells #[.int .u8 c] 5))
         clear T8 B8 G8)
      | (at_builtin
         refine wpList_append_byts rfl (.tmp 62) (.tmp 64) rfl w8.heap.size vA se rfl HT8.out (some ⟨wA.heap.size, 0, none⟩) [c] 1 rfl (byts_one wA c hc8) (by simp) (by simp; omega) (bel_alloc HB8.out _).size ?_
         intro vB wB T9 B9 G9
         rw [HSLL.out] at T9
         obtain ⟨p9, c9, rfl, x9, hc9, hp9⟩ := T9.fits
         clear T9 G9))
    have E0 := HE0.out
    have XB := HXB.out
    have XC := HXC.out
    have A1 := HA1.out
    have hB := HhB.out
    clear HE0 HXB HXC HA1 HhB
    have hb9 := bel_base (Nat.le_refl _) (bel_alloc HB8.out (Obj.cells #[.int .u8 c] 5)) B9
    clear B9 HT8 HB8
    replace E0 := E0.later hb9
    replace XB := XB.later hb9
    replace XC := XC.later hb9
    replace A1 := A1.later hb9
    replace hB := hB.trans (hb9.mono hB.size)
    clear hb9
    have hsl9 : sl.length = se.length + 1 := by rw [← HSLL.out]; simp
    have HS9 := Lib.hid hsl9
    clear hsl9
    refine (parse_at p9 sl sl.length c9 rfl (by have := HS9.out; omega) hc9 hp9 wB x9).mono ?_
    rintro e w10 hpp
    obtain ⟨q9, d9, rfl, -, hb⟩ := hpp.no (by rw [← HSLL.out]; exact HPL.out c)
    clear hpp
    replace E0 := E0.later hb
    replace XB := XB.later hb
    replace XC := XC.later hb
    replace A1 := A1.later hb
    replace x9 := x9.later hb
    replace hB := hB.trans (hb.mono hB.size)
    clear hb
    have HE0 := Lib.hid E0
    have HXB := Lib.hid XB
    have HXC := Lib.hid XC
    have HA1 := Lib.hid A1
    have Hx9 := Lib.hid x9
    have HhB := Lib.hid hB
    clear E0 XB XC A1 x9 hB
    go_wp2_with fail
    have E0 := HE0.out
    have XB := HXB.out
    have XC := HXC.out
    have A1 := HA1.out
    have x9 := Hx9.out
    have hB := HhB.out
    clear HE0 HXB HXC HA1 Hx9 HhB
    refine (parse_at pb (se.take k) k cb (by rw [List.length_take]; omega) (by omega) (by omega) hpb _ (XB.take k)).mono ?_
    rintro e w11 hpp
    obtain ⟨q10, d10, rfl, -, hb⟩ := hpp.no (HPS.out k hk)
    clear hpp
    replace E0 := E0.later hb
    replace XB := XB.later hb
    replace XC := XC.later hb
    replace A1 := A1.later hb
    replace x9 := x9.later hb
    replace hB := hB.trans (hb.mono hB.size)
    clear hb
    have HE0 := Lib.hid E0
    have HXB := Lib.hid XB
    have HXC := Lib.hid XC
    have HA1 := Lib.hid A1
    have Hx9 := Lib.hid x9
    have HhB := Lib.hid hB
    clear E0 XB XC A1 x9 hB
    go_wp2_with fail
    have E0 := HE0.out
    have XB := HXB.out
    have XC := HXC.out
    have A1 := HA1.out
    have x9 := Hx9.out
    have hB := HhB.out
    clear HE0 HXB HXC HA1 Hx9 HhB
    go_ret
    exact ⟨rfl, hB⟩
end Go.Proofs.Ytbfbfpjfmdannaa
