/-
  SP: the law SpLeads.
-/
import Derived.Test.YtjpimaiogdckpaaSpX
import Derived.Test.YtjpimaiogdckpaaSpK
import Derived.LoopTactic
import Derived.Deep.QuietTactic
import Derived.BigQuiet
namespace Go.Proofs.Ytjpimaiogdckpaa
open Go.ChangeShapes Go.WideShapes Go.ChangeAt Go.RowKit

set_option maxRecDepth 100000 in
set_option maxHeartbeats 8000000 in
theorem walkSpLeads (p : Option Addr) (cap : Nat) (l : List SplV) (w : World) (S0 : Sds w p l) (hm : l.length ≤ maxLen) (hk : l.length ≤ cap) (hn : p = none → cap = 0) :
    Calls Try.prog 3 #[.slice p l.length cap] w fun e w' => e = .returned (.bool true) ∧ Below w.heap.size w w' := by
  obtain ⟨n, hn0⟩ : ∃ n, l.length = n := ⟨_, rfl⟩
  have HL := Lib.hid hn0
  have hB := Below.refl w.heap.size w
  rw [hn0] at hm hk ⊢
  clear hn0 hm
  go_enter Try.func3, Try.ntmps3
  have HS0 := Lib.hid S0
  have HhB := Lib.hid hB
  clear S0 hB
  go_wp2_with fail
  have S0 := HS0.out
  have hB := HhB.out
  clear HS0 HhB
  refine (awake_any _).mono ?_
  rintro e w1 ⟨rfl, hb⟩
  replace S0 := S0.later hb
  replace hB := hB.trans (hb.mono hB.size)
  clear hb
  by_cases h40 : 40 < n
  · have d1 : decide (40 < (n : Int)) = true := by simp; omega
    have HS0 := Lib.hid S0
    have HhB := Lib.hid hB
    clear S0 hB
    go_wp2_with fail
    have S0 := HS0.out
    have hB := HhB.out
    clear HS0 HhB
    go_ret
    exact ⟨rfl, hB⟩
  have d1 : decide (40 < (n : Int)) = false := by simp; omega
  have HS0 := Lib.hid S0
  have HhB := Lib.hid hB
  clear S0 hB
  go_wp2_with fail
  have S0 := HS0.out
  have hB := HhB.out
  clear HS0 HhB
  cases hrun : spRun .zero l with
  | none =>
    refine (of_no l n HL.out (by omega) hrun _ _ _ S0).mono ?_
    rintro e w2 ⟨rfl, hb⟩
    replace S0 := S0.later hb
    replace hB := hB.trans (hb.mono hB.size)
    clear hb
    clear hrun
    have HS0 := Lib.hid S0
    have HhB := Lib.hid hB
    clear S0 hB
    go_wp2_with fail
    have S0 := HS0.out
    have hB := HhB.out
    clear HS0 HhB
    go_ret
    exact ⟨rfl, hB⟩
  | some s =>
    refine (of_ok l n HL.out (by omega) s hrun _ _ _ S0).mono ?_
    rintro e w2 ⟨go, rfl, -, PO, hb⟩
    replace S0 := S0.later hb
    replace hB := hB.trans (hb.mono hB.size)
    clear hb
    obtain ⟨hsok, -, -, hn1, hn2⟩ := run_ok l zero_ok (by show 1 + 3 * l.length ≤ 1000; have := HL.out; omega) hrun
    replace hn1 : 1 ≤ s.n := hn1
    replace hn2 : s.n ≤ 1 + 3 * 40 := by have h := HL.out; dsimp only [SpS.zero] at hn2; omega
    obtain ⟨N, hN⟩ : ∃ N, s.n = N := ⟨_, rfl⟩
    have HN := Lib.hid hN
    have HLP : Hid ((placesOf s).length = N) := Lib.hid (by rw [placesOf_len, hN])
    have HOK := Lib.hid hsok
    have HRUN := Lib.hid hrun
    rw [hN] at hn1 hn2 ⊢
    clear hN hsok hrun
    have hlds := run_lds l [] lds_zero zero_ok (by show 1 + 3 * l.length ≤ 1000; have := HL.out; omega) HRUN.out (fun x hx => absurd hx (by simp)) (fun x hx => absurd hx (by simp))
    rw [List.nil_append] at hlds
    obtain ⟨hl1, hl2, hl3⟩ := hlds
    have HLD := Lib.hid hl1
    have HCL := Lib.hid hl2
    have HIN : Hid (∀ x ∈ l, InN N x) := Lib.hid fun x hx => by
      obtain ⟨k1, k2, k3, k4, k5, k6, k7, k8⟩ := hl3 x hx
      rw [HN.out] at k1 k2 k3 k4
      exact ⟨⟨k1, k5⟩, ⟨k2, k6⟩, ⟨k3, k7⟩, ⟨k4, k8⟩⟩
    clear hl1 hl2 hl3
    have HS0 := Lib.hid S0
    have HPO := Lib.hid PO
    have HhB := Lib.hid hB
    clear S0 PO hB
    go_wp2_with fail
    have S0 := HS0.out
    have PO := HPO.out
    have hB := HhB.out
    clear HS0 HPO HhB
    have HS0 := Lib.hid S0
    have HPO := Lib.hid PO
    have HhB := Lib.hid hB
    clear S0 PO hB
    go_loopw [6] (fun vi wr => ∃ i : Nat, vi = .int .i64 i ∧ i ≤ N ∧ ∃ W', W' = wr ∧ Hid (Sds W' p l) ∧ Hid (Pls W' (some ⟨go, 0, none⟩) (placesOf s)) ∧ Hid (Below w.heap.size w W')) (fun vi _ => N - (intOf vi).toNat)
    case atStart => exact ⟨0, rfl, by omega, _, rfl, HS0, HPO, HhB⟩
    case round =>
      clear HS0 HPO HhB
      obtain ⟨i, rfl, hi, wr, rfl, HS0, HPO, HhB⟩ := hrel
      have S0 := HS0.out
      have PO := HPO.out
      have hB := HhB.out
      clear HS0 HPO HhB
      by_cases hlt : i < N
      · have HS0 := Lib.hid S0
        have HPO := Lib.hid PO
        have HhB := Lib.hid hB
        clear S0 PO hB
        go_wp2_with fail
        have S0 := HS0.out
        have PO := HPO.out
        have hB := HhB.out
        clear HS0 HPO HhB
        refine (leads_any l n HL.out (by omega) N i (by omega) hlt HIN.out (fun x hx => HCL.out x hx i) _ _ _ S0).mono ?_
        rintro e w3 ⟨gl, o, rfl, hol, KO, hof, hb⟩
        replace S0 := S0.later hb
        replace PO := PO.later hb
        replace hB := hB.trans (hb.mono hB.size)
        clear hb
        have HOL := Lib.hid hol
        have HOF := Lib.hid hof
        clear hol hof
        have HS0 := Lib.hid S0
        have HPO := Lib.hid PO
        have HKO := Lib.hid KO
        have HhB := Lib.hid hB
        clear S0 PO KO hB
        go_wp2_with fail
        have S0 := HS0.out
        have PO := HPO.out
        have KO := HKO.out
        have hB := HhB.out
        clear HS0 HPO HKO HhB
        refine (begun_any l n HL.out (by omega) i (by omega) _ _ _ S0).mono ?_
        rintro e w4 ⟨rfl, hb⟩
        replace S0 := S0.later hb
        replace PO := PO.later hb
        replace KO := KO.later hb
        replace hB := hB.trans (hb.mono hB.size)
        clear hb
        cases hbi : begB l i with
        | false =>
          clear hbi
          have HS0 := Lib.hid S0
          have HPO := Lib.hid PO
          have HKO := Lib.hid KO
          have HhB := Lib.hid hB
          clear S0 PO KO hB
          go_wp2_with fail
          have S0 := HS0.out
          have PO := HPO.out
          have KO := HKO.out
          have hB := HhB.out
          clear HS0 HPO HKO HhB
          have HS0 := Lib.hid S0
          have HPO := Lib.hid PO
          have HKO := Lib.hid KO
          have HhB := Lib.hid hB
          clear S0 PO KO hB
          go_loopw [9] (fun vi wr => ∃ j : Nat, vi = .int .i64 j ∧ j ≤ N ∧ ∃ W', W' = wr ∧ Hid (Sds W' p l) ∧ Hid (Pls W' (some ⟨go, 0, none⟩) (placesOf s)) ∧ Hid (Blk W' gl 4 (boolsA o)) ∧ Hid (Below w.heap.size w W')) (fun vi _ => N - (intOf vi).toNat)
          case atStart => exact ⟨0, rfl, by omega, _, rfl, HS0, HPO, HKO, HhB⟩
          case round =>
            clear HS0 HPO HKO HhB
            obtain ⟨j, rfl, hj, wr2, rfl, HS0, HPO, HKO, HhB⟩ := hrel
            have S0 := HS0.out
            have PO := HPO.out
            have KO := HKO.out
            have hB := HhB.out
            clear HS0 HPO HKO HhB
            by_cases hj : j < N
            · have HS0 := Lib.hid S0
              have HPO := Lib.hid PO
              have HKO := Lib.hid KO
              have HhB := Lib.hid hB
              clear S0 PO KO hB
              go_wp2_with fail
              have S0 := HS0.out
              have PO := HPO.out
              have KO := HKO.out
              have hB := HhB.out
              clear HS0 HPO HKO HhB
              have HS0 := Lib.hid S0
              have HPO := Lib.hid PO
              have HhB := Lib.hid hB
              clear S0 PO hB
              go_roundw
              case rel => exact ⟨i + 1, by simp, by omega, _, rfl, HS0, HPO, HhB⟩
              case measure => simp [intOf]; omega
            · obtain rfl : j = N := by omega
              have HS0 := Lib.hid S0
              have HPO := Lib.hid PO
              have HKO := Lib.hid KO
              have HhB := Lib.hid hB
              clear S0 PO KO hB
              go_wp2_with fail
              have S0 := HS0.out
              have PO := HPO.out
              have KO := HKO.out
              have hB := HhB.out
              clear HS0 HPO HKO HhB
              have HS0 := Lib.hid S0
              have HPO := Lib.hid PO
              have HhB := Lib.hid hB
              clear S0 PO hB
              go_roundw
              case rel => exact ⟨i + 1, by simp, by omega, _, rfl, HS0, HPO, HhB⟩
              case measure => simp [intOf]; omega
        | true =>
          have HBI := Lib.hid hbi
          clear hbi
          have HS0 := Lib.hid S0
          have HPO := Lib.hid PO
          have HKO := Lib.hid KO
          have HhB := Lib.hid hB
          clear S0 PO KO hB
          go_wp2_with fail
          have S0 := HS0.out
          have PO := HPO.out
          have KO := HKO.out
          have hB := HhB.out
          clear HS0 HPO HKO HhB
          have HS0 := Lib.hid S0
          have HPO := Lib.hid PO
          have HKO := Lib.hid KO
          have HhB := Lib.hid hB
          clear S0 PO KO hB
          go_loopw [9] (fun vi wr => ∃ j : Nat, vi = .int .i64 j ∧ j ≤ N ∧ ∃ W', W' = wr ∧ Hid (Sds W' p l) ∧ Hid (Pls W' (some ⟨go, 0, none⟩) (placesOf s)) ∧ Hid (Blk W' gl 4 (boolsA o)) ∧ Hid (Below w.heap.size w W')) (fun vi _ => N - (intOf vi).toNat)
          case atStart => exact ⟨0, rfl, by omega, _, rfl, HS0, HPO, HKO, HhB⟩
          case round =>
            clear HS0 HPO HKO HhB
            obtain ⟨j, rfl, hj, wr2, rfl, HS0, HPO, HKO, HhB⟩ := hrel
            have S0 := HS0.out
            have PO := HPO.out
            have KO := HKO.out
            have hB := HhB.out
            clear HS0 HPO HKO HhB
            by_cases hj : j < N
            · have HS0 := Lib.hid S0
              have HPO := Lib.hid PO
              have HKO := Lib.hid KO
              have HhB := Lib.hid hB
              clear S0 PO KO hB
              go_wp2_with fail
              have S0 := HS0.out
              have PO := HPO.out
              have KO := HKO.out
              have hB := HhB.out
              clear HS0 HPO HKO HhB
              refine (begun_any l n HL.out (by omega) j (by omega) _ _ _ S0).mono ?_
              rintro e w5 ⟨rfl, hb⟩
              replace S0 := S0.later hb
              replace PO := PO.later hb
              replace KO := KO.later hb
              replace hB := hB.trans (hb.mono hB.size)
              clear hb
              cases hbj : begB l j with
              | false =>
                clear hbj
                have HS0 := Lib.hid S0
                have HPO := Lib.hid PO
                have HKO := Lib.hid KO
                have HhB := Lib.hid hB
                clear S0 PO KO hB
                go_wp2_with fail
                refine wp_region_after (by kernel_rfl) (by kernel_rfl) ?_
                repeat (go_big_quiet_step (fail))
                refine wpQuiet_nil ?_
                rintro _ ⟨z, rfl⟩
                have S0 := HS0.out
                have PO := HPO.out
                have KO := HKO.out
                have hB := HhB.out
                clear HS0 HPO HKO HhB
                replace S0 := S0.later z.bel
                replace PO := PO.later z.bel
                replace KO := KO.later z.bel
                replace hB := hB.trans (z.bel.mono hB.size)
                have HS0 := Lib.hid S0
                have HPO := Lib.hid PO
                have HKO := Lib.hid KO
                have HhB := Lib.hid hB
                clear S0 PO KO hB
                go_wp2_with fail
                have S0 := HS0.out
                have PO := HPO.out
                have KO := HKO.out
                have hB := HhB.out
                clear HS0 HPO HKO HhB
                have HS0 := Lib.hid S0
                have HPO := Lib.hid PO
                have HKO := Lib.hid KO
                have HhB := Lib.hid hB
                clear S0 PO KO hB
                go_roundw
                case rel => exact ⟨j + 1, by simp, by omega, _, rfl, HS0, HPO, HKO, HhB⟩
                case measure => simp [intOf]; omega
              | true =>
                have hR : aheadP (placesOf s) i j = o.getD j false := by
                  by_cases e : j = i
                  · subst e
                    rw [ahead_self HOK.out j (by rw [HN.out]; exact hj)]
                    cases q : o.getD j false with
                    | false => rfl
                    | true => exact absurd rfl ((HOF.out j hj).1 q).1
                  · rw [ahead_label HOK.out i j (by rw [HN.out]; exact hlt) (by rw [HN.out]; exact hj)]
                    have m := HLD.out.main i j ((begB_iff l i).1 HBI.out) ((begB_iff l j).1 hbj) (Ne.symm e)
                    have k := HOF.out j hj
                    unfold Ahd ltL at m
                    rw [Bool.eq_iff_iff, Bool.and_eq_true, decide_eq_true_eq, decide_eq_true_eq, m, k]
                    exact ⟨fun q => ⟨e, q⟩, fun q => q.2⟩
                clear hbj
                obtain ⟨R, hR2⟩ : ∃ R, o.getD j false = R := ⟨_, rfl⟩
                rw [hR2] at hR
                have HP := Lib.hid fun (z : After w5) => ahead_at (placesOf s) N HLP.out (some ⟨go, 0, none⟩) N i j _ _ rfl rfl R hR hlt hj z.w (PO.later z.bel)
                have hcell : ∀ z : After w5, z.w.cell? ⟨gl, j, none⟩ = some (.bool R) := fun z => by rw [(KO.later z.bel).cell, ← hR2]; exact boolsA_at _ _ (by rw [HOL.out]; exact hj)
                have hrr : (R != R) = false := by simp
                clear hR hR2
                have HS0 := Lib.hid S0
                have HPO := Lib.hid PO
                have HKO := Lib.hid KO
                have HhB := Lib.hid hB
                clear S0 PO KO hB
                go_wp2_with fail
                refine wp_region_after (by kernel_rfl) (by kernel_rfl) ?_
                repeat (go_big_quiet_step (first | (go_at_call 12; with_reducible exact calls_after (HP.out _))))
                refine wpQuiet_nil ?_
                rintro _ ⟨z, rfl⟩
                have S0 := HS0.out
                have PO := HPO.out
                have KO := HKO.out
                have hB := HhB.out
                clear HS0 HPO HKO HhB
                replace S0 := S0.later z.bel
                replace PO := PO.later z.bel
                replace KO := KO.later z.bel
                replace hB := hB.trans (z.bel.mono hB.size)
                have HS0 := Lib.hid S0
                have HPO := Lib.hid PO
                have HKO := Lib.hid KO
                have HhB := Lib.hid hB
                clear S0 PO KO hB
                go_wp2_with fail
                have S0 := HS0.out
                have PO := HPO.out
                have KO := HKO.out
                have hB := HhB.out
                clear HS0 HPO HKO HhB
                have HS0 := Lib.hid S0
                have HPO := Lib.hid PO
                have HKO := Lib.hid KO
                have HhB := Lib.hid hB
                clear S0 PO KO hB
                go_roundw
                case rel => exact ⟨j + 1, by simp, by omega, _, rfl, HS0, HPO, HKO, HhB⟩
                case measure => simp [intOf]; omega
            · obtain rfl : j = N := by omega
              have HS0 := Lib.hid S0
              have HPO := Lib.hid PO
              have HKO := Lib.hid KO
              have HhB := Lib.hid hB
              clear S0 PO KO hB
              go_wp2_with fail
              have S0 := HS0.out
              have PO := HPO.out
              have KO := HKO.out
              have hB := HhB.out
              clear HS0 HPO HKO HhB
              have HS0 := Lib.hid S0
              have HPO := Lib.hid PO
              have HhB := Lib.hid hB
              clear S0 PO hB
              go_roundw
              case rel => exact ⟨i + 1, by simp, by omega, _, rfl, HS0, HPO, HhB⟩
              case measure => simp [intOf]; omega
      · obtain rfl : i = N := by omega
        have HS0 := Lib.hid S0
        have HPO := Lib.hid PO
        have HhB := Lib.hid hB
        clear S0 PO hB
        go_wp2_with fail
        have S0 := HS0.out
        have PO := HPO.out
        have hB := HhB.out
        clear HS0 HPO HhB
        go_ret
        exact ⟨rfl, hB⟩
end Go.Proofs.Ytjpimaiogdckpaa
