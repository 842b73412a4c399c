/-
  TRACE: the law TraceApart.
-/
import Derived.Test.YtbfbfpjfmdannaaTrJ
namespace Go.Proofs.Ytbfbfpjfmdannaa
open Go.ChangeShapes Go.WideShapes Go.ChangeAt Go.RowKit

set_option maxRecDepth 100000 in
set_option maxHeartbeats 8000000 in
theorem walkTraceApart (p : Option Addr) (cap : Nat) (l : List EvV) (p2 : Option Addr) (cap2 : Nat) (l2 : List EvV) (x : Int) (w : World) (E0 : EvsR w p l) (hm : l.length ≤ maxLen) (hk : l.length ≤ cap) (hn : p = none → cap = 0) (E2 : EvsR w p2 l2) (hm2 : l2.length ≤ maxLen) (hk2 : l2.length ≤ cap2) (hn2 : p2 = none → cap2 = 0) (hx : 0 ≤ x ∧ x ≤ 255) :
    Calls Try.prog 7 #[.slice p l.length cap, .slice p2 l2.length cap2, .int .u8 x] w fun e w' => e = .returned (.bool true) ∧ Below w.heap.size w w' := by
  obtain ⟨n, hn0⟩ : ∃ n, l.length = n := ⟨_, rfl⟩
  have HL := Lib.hid hn0
  have hB := Below.refl w.heap.size w
  rw [hn0] at hm hk ⊢
  clear hn0 hm
  obtain ⟨n2, hn02⟩ : ∃ n, l2.length = n := ⟨_, rfl⟩
  have HL2 := Lib.hid hn02
  rw [hn02] at hm2 hk2 ⊢
  clear hn02 hm2
  go_enter Try.func7, Try.ntmps7
  have HE0 := Lib.hid E0
  have HE2 := Lib.hid E2
  have HhB := Lib.hid hB
  clear E0 E2 hB
  go_wp2_with fail
  have E0 := HE0.out
  have E2 := HE2.out
  have hB := HhB.out
  clear HE0 HE2 HhB
  refine (awake_any _).mono ?_
  rintro e w1 ⟨rfl, hb⟩
  replace E0 := E0.later hb
  replace E2 := E2.later hb
  replace hB := hB.trans (hb.mono hB.size)
  clear hb
  by_cases h60 : 60 < n
  · have d1 : decide (60 < (n : Int)) = true := by simp; omega
    have HE0 := Lib.hid E0
    have HE2 := Lib.hid E2
    have HhB := Lib.hid hB
    clear E0 E2 hB
    go_wp2_with fail
    have E0 := HE0.out
    have E2 := HE2.out
    have hB := HhB.out
    clear HE0 HE2 HhB
    go_ret
    exact ⟨rfl, hB⟩
  have d1 : decide (60 < (n : Int)) = false := by simp; omega
  by_cases h602 : 60 < n2
  · have d2 : decide (60 < (n2 : Int)) = true := by simp; omega
    have HE0 := Lib.hid E0
    have HE2 := Lib.hid E2
    have HhB := Lib.hid hB
    clear E0 E2 hB
    go_wp2_with fail
    have E0 := HE0.out
    have E2 := HE2.out
    have hB := HhB.out
    clear HE0 HE2 HhB
    go_ret
    exact ⟨rfl, hB⟩
  have d2 : decide (60 < (n2 : Int)) = false := by simp; omega
  obtain ⟨K, hK⟩ : ∃ k : Nat, Int.tmod x ((n : Int) + 1) = (k : Int) := ⟨(Int.tmod x ((n : Int) + 1)).toNat, by rw [Int.tmod_eq_emod_of_nonneg hx.1]; have := Int.emod_nonneg x (show ((n : Int) + 1) ≠ 0 by omega); omega⟩
  have hKn : K ≤ n := by rw [Int.tmod_eq_emod_of_nonneg hx.1] at hK; have := Int.emod_lt_of_pos x (show (0 : Int) < (n : Int) + 1 by omega); omega
  have wK : IntKind.i64.wrap (K : Int) = K := by rw [IntKind.wrap_i64]; omega
  have hKc : K ≤ cap := by omega
  have nz : ((n : Int) + 1) ≠ 0 := by omega
  have nz2 : ((n : Int) + 1 == 0) = false := by simp; omega
  have hlK : (l.take K).length = K := by rw [List.length_take]; have := HL.out; omega
  obtain ⟨NA, hNA⟩ : ∃ B, (trBytes l).length = B := ⟨_, rfl⟩
  obtain ⟨NM, hNM⟩ : ∃ B, (trBytes l2).length = B := ⟨_, rfl⟩
  obtain ⟨NK, hNK⟩ : ∃ B, (trBytes (l.take K)).length = B := ⟨_, rfl⟩
  have sA := (trBytes_len (evNums_in E0.rng) (by rw [HL.out]; omega)).2
  have sM := (trBytes_len (evNums_in E2.rng) (by rw [HL2.out]; omega)).2
  have sK := (trBytes_len (evNums_in (E0.take K).rng) (by rw [hlK]; omega)).2
  rw [hNA] at sA
  rw [hNM] at sM
  rw [hNK] at sK
  obtain ⟨R1, hR1⟩ : ∃ R, decide (l = l2) = R := ⟨_, rfl⟩
  have hR1b := (bytes_eq E0.rng E2.rng (by rw [HL.out]; omega) (by rw [HL2.out]; omega)).trans hR1
  obtain ⟨R2, hR2⟩ : ∃ R, decide (trBytes l = trBytes (l.take K)) = R := ⟨_, rfl⟩
  have k1 : ((K : Int) == (n : Int)) = R2 := by
    rw [← hR2, bytes_eq E0.rng (E0.take K).rng (by rw [HL.out]; omega) (by rw [hlK]; omega)]
    by_cases e : K = n
    · have : l = l.take K := by rw [e, List.take_of_length_le (by rw [HL.out]; omega)]
      rw [decide_eq_true this]; simp [e]
    · have : ¬ l = l.take K := fun h => e (by have := congrArg List.length h; rw [hlK, HL.out] at this; exact this.symm)
      rw [decide_eq_false this]; simp; omega
  have b1 : (R1 == R1) = true := by simp
  have b2 : (R2 == R2) = true := by simp
  have HNA := Lib.hid hNA
  have HNM := Lib.hid hNM
  have HNK := Lib.hid hNK
  have HLK := Lib.hid hlK
  have HR1 := Lib.hid hR1
  have HR1B := Lib.hid hR1b
  have HR2 := Lib.hid hR2
  clear hNA hNM hNK hlK hR1 hR1b hR2
  have HE0 := Lib.hid E0
  have HE2 := Lib.hid E2
  have HhB := Lib.hid hB
  clear E0 E2 hB
  go_wp2_with fail
  have E0 := HE0.out
  have E2 := HE2.out
  have hB := HhB.out
  clear HE0 HE2 HhB
  refine (bytes_at p l n cap NA HL.out (by omega) HNA.out _ E0).mono ?_
  rintro e w2 ⟨pa, ca, rfl, XA, hca, hpa, hb⟩
  replace E0 := E0.later hb
  replace E2 := E2.later hb
  replace hB := hB.trans (hb.mono hB.size)
  clear hb
  have HE0 := Lib.hid E0
  have HE2 := Lib.hid E2
  have HXA := Lib.hid XA
  have HhB := Lib.hid hB
  clear E0 E2 XA hB
  go_wp2_with fail
  have E0 := HE0.out
  have E2 := HE2.out
  have XA := HXA.out
  have hB := HhB.out
  clear HE0 HE2 HXA HhB
  refine (bytes_at p2 l2 n2 cap2 NM HL2.out (by omega) HNM.out _ E2).mono ?_
  rintro e w3 ⟨pm, cm, rfl, XM, -, -, hb⟩
  replace E0 := E0.later hb
  replace E2 := E2.later hb
  replace XA := XA.later hb
  replace hB := hB.trans (hb.mono hB.size)
  clear hb
  have HE0 := Lib.hid E0
  have HE2 := Lib.hid E2
  have HXA := Lib.hid XA
  have HXM := Lib.hid XM
  have HhB := Lib.hid hB
  clear E0 E2 XA XM hB
  go_wp2_with fail
  have E0 := HE0.out
  have E2 := HE2.out
  have XA := HXA.out
  have XM := HXM.out
  have hB := HhB.out
  clear HE0 HE2 HXA HXM HhB
  refine (bsame_at (trBytes l) (trBytes l2) NA NM HNA.out HNM.out (by omega) (by omega) R1 HR1B.out _ _ _ _ _ XA XM).mono ?_
  rintro e w4 ⟨rfl, hb⟩
  replace E0 := E0.later hb
  replace E2 := E2.later hb
  replace XA := XA.later hb
  replace XM := XM.later hb
  replace hB := hB.trans (hb.mono hB.size)
  clear hb
  have HE0 := Lib.hid E0
  have HE2 := Lib.hid E2
  have HXA := Lib.hid XA
  have HXM := Lib.hid XM
  have HhB := Lib.hid hB
  clear E0 E2 XA XM hB
  go_wp2_with fail
  have E0 := HE0.out
  have E2 := HE2.out
  have XA := HXA.out
  have XM := HXM.out
  have hB := HhB.out
  clear HE0 HE2 HXA HXM HhB
  refine (bytes_at p (l.take K) K cap NK HLK.out (by omega) HNK.out _ (E0.take K)).mono ?_
  rintro e w5 ⟨pk, ck, rfl, XK, -, -, hb⟩
  replace E0 := E0.later hb
  replace E2 := E2.later hb
  replace XA := XA.later hb
  replace XM := XM.later hb
  replace hB := hB.trans (hb.mono hB.size)
  clear hb
  have HE0 := Lib.hid E0
  have HE2 := Lib.hid E2
  have HXA := Lib.hid XA
  have HXM := Lib.hid XM
  have HXK := Lib.hid XK
  have HhB := Lib.hid hB
  clear E0 E2 XA XM XK hB
  go_wp2_with fail
  have E0 := HE0.out
  have E2 := HE2.out
  have XA := HXA.out
  have XM := HXM.out
  have XK := HXK.out
  have hB := HhB.out
  clear HE0 HE2 HXA HXM HXK HhB
  refine (bsame_at (trBytes l) (trBytes (l.take K)) NA NK HNA.out HNK.out (by omega) (by omega) R2 HR2.out _ _ _ _ _ XA XK).mono ?_
  rintro e w6 ⟨rfl, hb⟩
  replace E0 := E0.later hb
  replace E2 := E2.later hb
  replace XA := XA.later hb
  replace XM := XM.later hb
  replace XK := XK.later hb
  replace hB := hB.trans (hb.mono hB.size)
  clear hb
  have HE0 := Lib.hid E0
  have HE2 := Lib.hid E2
  have HXA := Lib.hid XA
  have HXM := Lib.hid XM
  have HXK := Lib.hid XK
  have HhB := Lib.hid hB
  clear E0 E2 XA XM XK hB
  go_wp2_with fail
  have E0 := HE0.out
  have E2 := HE2.out
  have XA := HXA.out
  have XM := HXM.out
  have XK := HXK.out
  have hB := HhB.out
  clear HE0 HE2 HXA HXM HXK HhB
  refine (same_any l l2 n n2 HL.out HL2.out (by omega) (by omega) R1 HR1.out _ _ _ _ _ E0.rows E2.rows).mono ?_
  rintro e w7 ⟨rfl, hb⟩
  replace E0 := E0.later hb
  replace E2 := E2.later hb
  replace XA := XA.later hb
  replace XM := XM.later hb
  replace XK := XK.later hb
  replace hB := hB.trans (hb.mono hB.size)
  clear hb
  have HE0 := Lib.hid E0
  have HE2 := Lib.hid E2
  have HXA := Lib.hid XA
  have HXM := Lib.hid XM
  have HXK := Lib.hid XK
  have HhB := Lib.hid hB
  clear E0 E2 XA XM XK hB
  go_wp2_with fail
  have E0 := HE0.out
  have E2 := HE2.out
  have XA := HXA.out
  have XM := HXM.out
  have XK := HXK.out
  have hB := HhB.out
  clear HE0 HE2 HXA HXM HXK HhB
  go_ret
  exact ⟨rfl, hB⟩
end Go.Proofs.Ytbfbfpjfmdannaa
