/-
  TRACE: the law TraceReads.
-/
import Derived.Test.YtbfbfpjfmdannaaTrJ
namespace Go.Proofs.Ytbfbfpjfmdannaa
open Go.ChangeShapes Go.WideShapes Go.ChangeAt Go.RowKit

set_option maxRecDepth 100000 in
set_option maxHeartbeats 8000000 in
theorem walkTraceReads (a0 : Option Addr) (len0 cap0 : Nat) (z0 : List Int) (w : World) (h0 : IsRow .u8 w a0 len0 cap0 z0) :
    Calls Try.prog 4 #[.slice a0 len0 cap0] w fun e w' => e = .returned (.bool true) ∧ Below w.heap.size w w' := by
  obtain ⟨bs, X0, hlen, hcap, hp⟩ := row8 h0
  have HL := Lib.hid hlen
  clear h0 hlen
  have hB := Below.refl w.heap.size w
  go_enter Try.func4, Try.ntmps4
  have HX0 := Lib.hid X0
  have HhB := Lib.hid hB
  clear X0 hB
  go_wp2_with fail
  have X0 := HX0.out
  have hB := HhB.out
  clear HX0 HhB
  refine (awake_any _).mono ?_
  rintro e w1 ⟨rfl, hb⟩
  replace X0 := X0.later hb
  replace hB := hB.trans (hb.mono hB.size)
  clear hb
  by_cases h60 : 2000 < len0
  · have d1 : decide (2000 < (len0 : Int)) = true := by simp; omega
    have HX0 := Lib.hid X0
    have HhB := Lib.hid hB
    clear X0 hB
    go_wp2_with fail
    have X0 := HX0.out
    have hB := HhB.out
    clear HX0 HhB
    go_ret
    exact ⟨rfl, hB⟩
  have d1 : decide (2000 < (len0 : Int)) = false := by simp; omega
  have HX0 := Lib.hid X0
  have HhB := Lib.hid hB
  clear X0 hB
  go_wp2_with fail
  have X0 := HX0.out
  have hB := HhB.out
  clear HX0 HhB
  cases hpar : trParse bs with
  | none =>
    refine (parse_at a0 bs len0 cap0 HL.out (by omega) hcap hp _ X0).mono ?_
    rintro e w2 hpp
    obtain ⟨q1, c1, rfl, A1, hb⟩ := hpp.no hpar
    clear hpp
    replace X0 := X0.later hb
    replace hB := hB.trans (hb.mono hB.size)
    clear hb
    have HPAR := Lib.hid hpar
    clear hpar
    have HX0 := Lib.hid X0
    have HA1 := Lib.hid A1
    have HhB := Lib.hid hB
    clear X0 A1 hB
    go_wp2_with fail
    have X0 := HX0.out
    have A1 := HA1.out
    have hB := HhB.out
    clear HX0 HA1 HhB
    refine (rparse_at a0 bs len0 cap0 HL.out (by omega) hcap hp _ X0).mono ?_
    rintro e w3 hpp
    obtain ⟨q2, c2, rfl, A2, hb⟩ := hpp.no HPAR.out
    clear hpp
    replace X0 := X0.later hb
    replace A1 := A1.later hb
    replace hB := hB.trans (hb.mono hB.size)
    clear hb
    have HX0 := Lib.hid X0
    have HA1 := Lib.hid A1
    have HA2 := Lib.hid A2
    have HhB := Lib.hid hB
    clear X0 A1 A2 hB
    go_wp2_with fail
    have X0 := HX0.out
    have A1 := HA1.out
    have A2 := HA2.out
    have hB := HhB.out
    clear HX0 HA1 HA2 HhB
    refine (same_any [] [] 0 0 rfl rfl (by omega) (by omega) true (decide_eq_true rfl) _ _ _ _ _ A1 A2).mono ?_
    rintro e w4 ⟨rfl, hb⟩
    replace X0 := X0.later hb
    replace A1 := A1.later hb
    replace A2 := A2.later hb
    replace hB := hB.trans (hb.mono hB.size)
    clear hb
    have HX0 := Lib.hid X0
    have HA1 := Lib.hid A1
    have HA2 := Lib.hid A2
    have HhB := Lib.hid hB
    clear X0 A1 A2 hB
    go_wp2_with fail
    have X0 := HX0.out
    have A1 := HA1.out
    have A2 := HA2.out
    have hB := HhB.out
    clear HX0 HA1 HA2 HhB
    go_ret
    exact ⟨rfl, hB⟩
  | some x =>
    refine (parse_at a0 bs len0 cap0 HL.out (by omega) hcap hp _ X0).mono ?_
    rintro e w2 hpp
    obtain ⟨q1, c1, rfl, A1, hb⟩ := hpp.at hpar
    clear hpp
    replace X0 := X0.later hb
    replace hB := hB.trans (hb.mono hB.size)
    clear hb
    have hby := trBytes_parse X0.rng hpar
    obtain ⟨M, hM⟩ : ∃ M, x.length = M := ⟨_, rfl⟩
    have hge := trBytes_ge x
    rw [hby, HL.out, hM] at hge
    rw [hM]
    have hM2 : M ≤ 250 := by omega
    have HF : Hid ((numsF (evNums x)).length ≤ 10000) := Lib.hid (by omega)
    have HM := Lib.hid hM
    have HBY := Lib.hid hby
    have HPAR := Lib.hid hpar
    clear hM hby hpar hge
    have HX0 := Lib.hid X0
    have HA1 := Lib.hid A1
    have HhB := Lib.hid hB
    clear X0 A1 hB
    go_wp2_with fail
    have X0 := HX0.out
    have A1 := HA1.out
    have hB := HhB.out
    clear HX0 HA1 HhB
    refine (rparse_at a0 bs len0 cap0 HL.out (by omega) hcap hp _ X0).mono ?_
    rintro e w3 hpp
    obtain ⟨q2, c2, rfl, A2, hb⟩ := hpp.at HPAR.out
    clear hpp
    replace X0 := X0.later hb
    replace A1 := A1.later hb
    replace hB := hB.trans (hb.mono hB.size)
    clear hb
    rw [HM.out]
    have HX0 := Lib.hid X0
    have HA1 := Lib.hid A1
    have HA2 := Lib.hid A2
    have HhB := Lib.hid hB
    clear X0 A1 A2 hB
    go_wp2_with fail
    have X0 := HX0.out
    have A1 := HA1.out
    have A2 := HA2.out
    have hB := HhB.out
    clear HX0 HA1 HA2 HhB
    refine (same_any x x M M HM.out HM.out (by omega) (by omega) true (decide_eq_true rfl) _ _ _ _ _ A1.rows A2.rows).mono ?_
    rintro e w4 ⟨rfl, hb⟩
    replace X0 := X0.later hb
    replace A1 := A1.later hb
    replace A2 := A2.later hb
    replace hB := hB.trans (hb.mono hB.size)
    clear hb
    have HX0 := Lib.hid X0
    have HA1 := Lib.hid A1
    have HA2 := Lib.hid A2
    have HhB := Lib.hid hB
    clear X0 A1 A2 hB
    go_wp2_with fail
    have X0 := HX0.out
    have A1 := HA1.out
    have A2 := HA2.out
    have hB := HhB.out
    clear HX0 HA1 HA2 HhB
    refine (bytes_gen q1 x M c1 HM.out (by omega) HF.out _ A1).mono ?_
    rintro e w5 ⟨pb, cb, rfl, XB, hcb, hpb, hb⟩
    replace X0 := X0.later hb
    replace A1 := A1.later hb
    replace A2 := A2.later hb
    replace hB := hB.trans (hb.mono hB.size)
    clear hb
    have HX0 := Lib.hid X0
    have HA1 := Lib.hid A1
    have HA2 := Lib.hid A2
    have HXB := Lib.hid XB
    have HhB := Lib.hid hB
    clear X0 A1 A2 XB hB
    go_wp2_with fail
    have X0 := HX0.out
    have A1 := HA1.out
    have A2 := HA2.out
    have XB := HXB.out
    have hB := HhB.out
    clear HX0 HA1 HA2 HXB HhB
    refine (bsame_at (trBytes x) bs _ len0 rfl HL.out (by rw [HBY.out, HL.out]; omega) (by omega) true (decide_eq_true HBY.out) _ _ _ _ _ XB X0).mono ?_
    rintro e w6 ⟨rfl, hb⟩
    replace X0 := X0.later hb
    replace A1 := A1.later hb
    replace A2 := A2.later hb
    replace XB := XB.later hb
    replace hB := hB.trans (hb.mono hB.size)
    clear hb
    have HX0 := Lib.hid X0
    have HA1 := Lib.hid A1
    have HA2 := Lib.hid A2
    have HXB := Lib.hid XB
    have HhB := Lib.hid hB
    clear X0 A1 A2 XB hB
    go_wp2_with fail
    have X0 := HX0.out
    have A1 := HA1.out
    have A2 := HA2.out
    have XB := HXB.out
    have hB := HhB.out
    clear HX0 HA1 HA2 HXB HhB
    go_ret
    exact ⟨rfl, hB⟩
end Go.Proofs.Ytbfbfpjfmdannaa
