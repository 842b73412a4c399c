/-
  TRACE: the law TraceWrites.
-/
import Derived.Test.YtbfbfpjfmdannaaTrJ
namespace Go.Proofs.Ytbfbfpjfmdannaa
open Go.ChangeShapes Go.WideShapes Go.ChangeAt Go.RowKit

set_option maxRecDepth 100000 in
set_option maxHeartbeats 8000000 in
theorem walkTraceWrites (p : Option Addr) (cap : Nat) (l : List EvV) (w : World) (E0 : EvsR w p l) (hm : l.length ≤ maxLen) (hk : l.length ≤ cap) (hn : p = none → cap = 0) :
    Calls Try.prog 3 #[.slice p l.length cap] w fun e w' => e = .returned (.bool true) ∧ Below w.heap.size w w' := by
  obtain ⟨n, hn0⟩ : ∃ n, l.length = n := ⟨_, rfl⟩
  have HL := Lib.hid hn0
  have hB := Below.refl w.heap.size w
  rw [hn0] at hm hk ⊢
  clear hn0 hm
  go_enter Try.func3, Try.ntmps3
  have HE0 := Lib.hid E0
  have HhB := Lib.hid hB
  clear E0 hB
  go_wp2_with fail
  have E0 := HE0.out
  have hB := HhB.out
  clear HE0 HhB
  refine (awake_any _).mono ?_
  rintro e w1 ⟨rfl, hb⟩
  replace E0 := E0.later hb
  replace hB := hB.trans (hb.mono hB.size)
  clear hb
  by_cases h60 : 60 < n
  · have d1 : decide (60 < (n : Int)) = true := by simp; omega
    have HE0 := Lib.hid E0
    have HhB := Lib.hid hB
    clear E0 hB
    go_wp2_with fail
    have E0 := HE0.out
    have hB := HhB.out
    clear HE0 HhB
    go_ret
    exact ⟨rfl, hB⟩
  have d1 : decide (60 < (n : Int)) = false := by simp; omega
  have hin := evNums_in E0.rng
  obtain ⟨NB, hNB⟩ : ∃ B, (trBytes l).length = B := ⟨_, rfl⟩
  have hNB2 := (trBytes_len hin (by rw [HL.out]; omega)).2
  rw [hNB] at hNB2
  have HNB := Lib.hid hNB
  have HPA := Lib.hid (trParse_bytes hin (by rw [HL.out]; omega))
  clear hin hNB
  have HE0 := Lib.hid E0
  have HhB := Lib.hid hB
  clear E0 hB
  go_wp2_with fail
  have E0 := HE0.out
  have hB := HhB.out
  clear HE0 HhB
  refine (bytes_at p l n cap NB HL.out (by omega) HNB.out _ E0).mono ?_
  rintro e w2 ⟨pb, cb, rfl, XB, hcb, hpb, hb⟩
  replace E0 := E0.later hb
  replace hB := hB.trans (hb.mono hB.size)
  clear hb
  have HE0 := Lib.hid E0
  have HXB := Lib.hid XB
  have HhB := Lib.hid hB
  clear E0 XB hB
  go_wp2_with fail
  have E0 := HE0.out
  have XB := HXB.out
  have hB := HhB.out
  clear HE0 HXB HhB
  refine (parse_at pb (trBytes l) NB cb HNB.out (by omega) hcb hpb _ XB).mono ?_
  rintro e w3 hpp
  obtain ⟨qm, cm, rfl, A2, hb⟩ := hpp.at HPA.out
  clear hpp
  replace E0 := E0.later hb
  replace XB := XB.later hb
  replace hB := hB.trans (hb.mono hB.size)
  clear hb
  rw [HL.out]
  have A2 := A2.rows
  have HE0 := Lib.hid E0
  have HXB := Lib.hid XB
  have HA2 := Lib.hid A2
  have HhB := Lib.hid hB
  clear E0 XB A2 hB
  go_wp2_with fail
  have E0 := HE0.out
  have XB := HXB.out
  have A2 := HA2.out
  have hB := HhB.out
  clear HE0 HXB HA2 HhB
  refine (rbytes_at p l n cap NB HL.out (by omega) HNB.out _ E0).mono ?_
  rintro e w4 ⟨pr, cr, rfl, XR, -, -, hb⟩
  replace E0 := E0.later hb
  replace XB := XB.later hb
  replace A2 := A2.later hb
  replace hB := hB.trans (hb.mono hB.size)
  clear hb
  have HE0 := Lib.hid E0
  have HXB := Lib.hid XB
  have HA2 := Lib.hid A2
  have HXR := Lib.hid XR
  have HhB := Lib.hid hB
  clear E0 XB A2 XR hB
  go_wp2_with fail
  have E0 := HE0.out
  have XB := HXB.out
  have A2 := HA2.out
  have XR := HXR.out
  have hB := HhB.out
  clear HE0 HXB HA2 HXR HhB
  refine (bsame_at (trBytes l) (trBytes l) NB NB HNB.out HNB.out (by omega) (by omega) true (decide_eq_true rfl) _ _ _ _ _ XB XR).mono ?_
  rintro e w5 ⟨rfl, hb⟩
  replace E0 := E0.later hb
  replace XB := XB.later hb
  replace A2 := A2.later hb
  replace XR := XR.later hb
  replace hB := hB.trans (hb.mono hB.size)
  clear hb
  have HE0 := Lib.hid E0
  have HXB := Lib.hid XB
  have HA2 := Lib.hid A2
  have HXR := Lib.hid XR
  have HhB := Lib.hid hB
  clear E0 XB A2 XR hB
  go_wp2_with fail
  have E0 := HE0.out
  have XB := HXB.out
  have A2 := HA2.out
  have XR := HXR.out
  have hB := HhB.out
  clear HE0 HXB HA2 HXR HhB
  refine (picks_any p l n cap HL.out (by omega) _ E0.rows).mono ?_
  rintro e w6 ⟨gp, rfl, PK, hb⟩
  replace E0 := E0.later hb
  replace XB := XB.later hb
  replace A2 := A2.later hb
  replace XR := XR.later hb
  replace hB := hB.trans (hb.mono hB.size)
  clear hb
  have HE0 := Lib.hid E0
  have HXB := Lib.hid XB
  have HA2 := Lib.hid A2
  have HXR := Lib.hid XR
  have HPK := Lib.hid PK
  have HhB := Lib.hid hB
  clear E0 XB A2 XR PK hB
  go_wp2_with fail
  have E0 := HE0.out
  have XB := HXB.out
  have A2 := HA2.out
  have XR := HXR.out
  have PK := HPK.out
  have hB := HhB.out
  clear HE0 HXB HA2 HXR HPK HhB
  refine (rpicks_any p l n cap HL.out (by omega) _ E0.rows).mono ?_
  rintro e w7 ⟨gr, crr, rfl, PR, hb⟩
  replace E0 := E0.later hb
  replace XB := XB.later hb
  replace A2 := A2.later hb
  replace XR := XR.later hb
  replace PK := PK.later hb
  replace hB := hB.trans (hb.mono hB.size)
  clear hb
  have HE0 := Lib.hid E0
  have HXB := Lib.hid XB
  have HA2 := Lib.hid A2
  have HXR := Lib.hid XR
  have HPK := Lib.hid PK
  have HPR := Lib.hid PR
  have HhB := Lib.hid hB
  clear E0 XB A2 XR PK PR hB
  go_wp2_with fail
  have E0 := HE0.out
  have XB := HXB.out
  have A2 := HA2.out
  have XR := HXR.out
  have PK := HPK.out
  have PR := HPR.out
  have hB := HhB.out
  clear HE0 HXB HA2 HXR HPK HPR HhB
  refine (picked_any (pks l) (pks l) n n (pks_len HL.out) (pks_len HL.out) (by omega) (by omega) true (decide_eq_true rfl) _ _ _ _ _ PK PR).mono ?_
  rintro e w8 ⟨rfl, hb⟩
  replace E0 := E0.later hb
  replace XB := XB.later hb
  replace A2 := A2.later hb
  replace XR := XR.later hb
  replace PK := PK.later hb
  replace PR := PR.later hb
  replace hB := hB.trans (hb.mono hB.size)
  clear hb
  have HE0 := Lib.hid E0
  have HXB := Lib.hid XB
  have HA2 := Lib.hid A2
  have HXR := Lib.hid XR
  have HPK := Lib.hid PK
  have HPR := Lib.hid PR
  have HhB := Lib.hid hB
  clear E0 XB A2 XR PK PR hB
  go_wp2_with fail
  have E0 := HE0.out
  have XB := HXB.out
  have A2 := HA2.out
  have XR := HXR.out
  have PK := HPK.out
  have PR := HPR.out
  have hB := HhB.out
  clear HE0 HXB HA2 HXR HPK HPR HhB
  refine (same_any l l n n HL.out HL.out (by omega) (by omega) true (decide_eq_true rfl) _ _ _ _ _ A2 E0.rows).mono ?_
  rintro e w9 ⟨rfl, hb⟩
  replace E0 := E0.later hb
  replace XB := XB.later hb
  replace A2 := A2.later hb
  replace XR := XR.later hb
  replace PK := PK.later hb
  replace PR := PR.later hb
  replace hB := hB.trans (hb.mono hB.size)
  clear hb
  have HE0 := Lib.hid E0
  have HXB := Lib.hid XB
  have HA2 := Lib.hid A2
  have HXR := Lib.hid XR
  have HPK := Lib.hid PK
  have HPR := Lib.hid PR
  have HhB := Lib.hid hB
  clear E0 XB A2 XR PK PR hB
  go_wp2_with fail
  have E0 := HE0.out
  have XB := HXB.out
  have A2 := HA2.out
  have XR := HXR.out
  have PK := HPK.out
  have PR := HPR.out
  have hB := HhB.out
  clear HE0 HXB HA2 HXR HPK HPR HhB
  go_ret
  exact ⟨rfl, hB⟩
end Go.Proofs.Ytbfbfpjfmdannaa
