/-
  SP: the law SpGrows.
-/
import Derived.Test.YtjpimaiogdckpaaSpX
import Derived.LoopTactic
import Derived.Deep.QuietTactic
import Derived.BigQuiet
namespace Go.Proofs.Ytjpimaiogdckpaa
open Go.ChangeShapes Go.WideShapes Go.ChangeAt Go.RowKit

theorem Sds.take {w : World} {p : Option Addr} {ts : List SplV} (h : Sds w p ts) (k : Nat) : Sds w p (ts.take k) := ⟨fun i hi => by
  rw [List.length_take] at hi
  obtain ⟨b, off, h1, h2, h3⟩ := h.at_ i (by omega)
  refine ⟨b, off, h1, h2, ?_⟩
  rw [List.getElem_take]; exact h3⟩
set_option maxRecDepth 100000 in
set_option maxHeartbeats 8000000 in
theorem walkSpGrows (p : Option Addr) (cap : Nat) (l : List SplV) (a : Int) (w : World) (S0 : Sds w p l) (hm : l.length ≤ maxLen) (hk : l.length ≤ cap) (hn : p = none → cap = 0) (ha : 0 ≤ a ∧ a ≤ 255) :
    Calls Try.prog 5 #[.slice p l.length cap, .int .u8 a] w fun e w' => e = .returned (.bool true) ∧ Below w.heap.size w w' := by
  obtain ⟨n, hn0⟩ : ∃ n, l.length = n := ⟨_, rfl⟩
  have HL := Lib.hid hn0
  have hB := Below.refl w.heap.size w
  rw [hn0] at hm hk ⊢
  clear hn0 hm
  go_enter Try.func5, Try.ntmps5
  have HS0 := Lib.hid S0
  have HhB := Lib.hid hB
  clear S0 hB
  go_wp2_with fail
  have S0 := HS0.out
  have hB := HhB.out
  clear HS0 HhB
  refine (awake_any _).mono ?_
  rintro e w1 ⟨rfl, hb⟩
  replace S0 := S0.later hb
  replace hB := hB.trans (hb.mono hB.size)
  clear hb
  by_cases h40 : 40 < n
  · have d1 : decide (40 < (n : Int)) = true := by simp; omega
    have HS0 := Lib.hid S0
    have HhB := Lib.hid hB
    clear S0 hB
    go_wp2_with fail
    have S0 := HS0.out
    have hB := HhB.out
    clear HS0 HhB
    go_ret
    exact ⟨rfl, hB⟩
  have d1 : decide (40 < (n : Int)) = false := by simp; omega
  have HS0 := Lib.hid S0
  have HhB := Lib.hid hB
  clear S0 hB
  go_wp2_with fail
  have S0 := HS0.out
  have hB := HhB.out
  clear HS0 HhB
  cases hrun : spRun .zero l with
  | none =>
    refine (of_no l n HL.out (by omega) hrun _ _ _ S0).mono ?_
    rintro e w2 ⟨rfl, hb⟩
    replace S0 := S0.later hb
    replace hB := hB.trans (hb.mono hB.size)
    clear hb
    clear hrun
    have HS0 := Lib.hid S0
    have HhB := Lib.hid hB
    clear S0 hB
    go_wp2_with fail
    have S0 := HS0.out
    have hB := HhB.out
    clear HS0 HhB
    go_ret
    exact ⟨rfl, hB⟩
  | some s =>
    refine (of_ok l n HL.out (by omega) s hrun _ _ _ S0).mono ?_
    rintro e w2 ⟨go, rfl, -, PO, hb⟩
    replace S0 := S0.later hb
    replace hB := hB.trans (hb.mono hB.size)
    clear hb
    obtain ⟨hsok, -, -, hn1, hn2⟩ := run_ok l zero_ok (by show 1 + 3 * l.length ≤ 1000; have := HL.out; omega) hrun
    replace hn1 : 1 ≤ s.n := hn1
    replace hn2 : s.n ≤ 1 + 3 * 40 := by have h := HL.out; dsimp only [SpS.zero] at hn2; omega
    obtain ⟨N, hN⟩ : ∃ N, s.n = N := ⟨_, rfl⟩
    have HN := Lib.hid hN
    have HLP : Hid ((placesOf s).length = N) := Lib.hid (by rw [placesOf_len, hN])
    have HOK := Lib.hid hsok
    have HRUN := Lib.hid hrun
    rw [hN] at hn1 hn2 ⊢
    clear hN hsok hrun
    obtain ⟨K, hK⟩ : ∃ k : Nat, Int.tmod a ((n : Int) + 1) = (k : Int) := ⟨(Int.tmod a ((n : Int) + 1)).toNat, by rw [Int.tmod_eq_emod_of_nonneg ha.1]; have := Int.emod_nonneg a (show ((n : Int) + 1) ≠ 0 by omega); omega⟩
    have hKn : K ≤ n := by rw [Int.tmod_eq_emod_of_nonneg ha.1] at hK; have := Int.emod_lt_of_pos a (show (0 : Int) < (n : Int) + 1 by omega); omega
    have wK : IntKind.i64.wrap (K : Int) = K := by rw [IntKind.wrap_i64]; omega
    have hKc : K ≤ cap := by omega
    have nz : ((n : Int) + 1) ≠ 0 := by omega
    have nz2 : ((n : Int) + 1 == 0) = false := by simp; omega
    obtain ⟨u, hu⟩ := run_prefix HRUN.out K
    have hrest := run_rest HRUN.out hu
    obtain ⟨uok, -, -, hu1, hu2⟩ := run_ok (l.take K) zero_ok (by show 1 + _ ≤ _; rw [List.length_take]; have := HL.out; omega) hu
    obtain ⟨-, gE, gH, hun, -⟩ := run_ok (l.drop K) uok (by rw [List.length_take] at hu2; rw [List.length_drop]; dsimp only [SpS.zero] at hu2; have := HL.out; omega) hrest
    have HAG : Hid (∀ x y, x < u.n → y < u.n → aheadP (placesOf u) x y = aheadP (placesOf s) x y ∧ parP (placesOf u) x y = parP (placesOf s) x y) := Lib.hid fun x y hx hy => ⟨ahead_grown uok HOK.out gE gH hun x y hx hy, par_grown uok HOK.out gE gH hun x y hx hy⟩
    have HUR := Lib.hid hu
    obtain ⟨M, hM⟩ : ∃ M, u.n = M := ⟨_, rfl⟩
    have HM := Lib.hid hM
    have HLU : Hid ((placesOf u).length = M) := Lib.hid (by rw [placesOf_len, hM])
    have hMN : M ≤ N := by have h := HN.out; omega
    clear hu hrest uok gE gH hun hu1 hu2 hM
    have HS0 := Lib.hid S0
    have HPO := Lib.hid PO
    have HhB := Lib.hid hB
    clear S0 PO hB
    go_wp2_with fail
    have S0 := HS0.out
    have PO := HPO.out
    have hB := HhB.out
    clear HS0 HPO HhB
    refine (of_ok (l.take K) K (by rw [List.length_take]; have := HL.out; omega) (by omega) u HUR.out _ _ _ (S0.take K)).mono ?_
    rintro e w3 ⟨gp, rfl, -, PU, hb⟩
    replace S0 := S0.later hb
    replace PO := PO.later hb
    replace hB := hB.trans (hb.mono hB.size)
    clear hb
    rw [HM.out]
    clear S0
    have hNM : ¬ N < M := by omega
    have hNM2 : decide (N < M) = false := by simp; omega
    have HPO := Lib.hid PO
    have HPU := Lib.hid PU
    have HhB := Lib.hid hB
    clear PO PU hB
    go_wp2_with fail
    have PO := HPO.out
    have PU := HPU.out
    have hB := HhB.out
    clear HPO HPU HhB
    have HPO := Lib.hid PO
    have HPU := Lib.hid PU
    have HhB := Lib.hid hB
    clear PO PU hB
    go_loopw [10] (fun vi wr => ∃ i : Nat, vi = .int .i64 i ∧ i ≤ N ∧ ∃ W', W' = wr ∧ Hid (Pls W' (some ⟨go, 0, none⟩) (placesOf s)) ∧ Hid (Pls W' (some ⟨gp, 0, none⟩) (placesOf u)) ∧ Hid (Below w.heap.size w W')) (fun vi _ => N - (intOf vi).toNat)
    case atStart => exact ⟨0, rfl, by omega, _, rfl, HPO, HPU, HhB⟩
    case round =>
      clear HPO HPU HhB
      obtain ⟨i, rfl, hi, wr, rfl, HPO, HPU, HhB⟩ := hrel
      have PO := HPO.out
      have PU := HPU.out
      have hB := HhB.out
      clear HPO HPU HhB
      by_cases hlt : i < N
      · have c0 := (PO.got i (by rw [HLP.out]; exact hlt)).2.1
        have c1 := (PO.got i (by rw [HLP.out]; exact hlt)).2.2
        have cl := (PO.got i (by rw [HLP.out]; exact hlt)).1
        have hin := places_in HOK.out i (by rw [HN.out]; exact hlt)
        rw [HN.out] at hin
        obtain ⟨A0, hA0⟩ : ∃ P, ((placesOf s).getD i (0, 0)).1 = P := ⟨_, rfl⟩
        obtain ⟨A1, hA1⟩ : ∃ P, ((placesOf s).getD i (0, 0)).2 = P := ⟨_, rfl⟩
        rw [hA0] at c0 hin
        rw [hA1] at c1 hin
        have HA0 := Lib.hid hA0
        have HA1 := Lib.hid hA1
        have d0 : decide (A0 < 0) = false := by simp; omega
        have d1 : decide ((N : Int) ≤ A0) = false := by simp; omega
        have d2 : decide (A1 < 0) = false := by simp; omega
        have d3 : decide ((N : Int) ≤ A1) = false := by simp; omega
        have d4 : decide (A0 ≥ (N : Int)) = false := d1
        have d5 : decide (A1 ≥ (N : Int)) = false := d3
        clear hA0 hA1 hin
        have HPO := Lib.hid PO
        have HPU := Lib.hid PU
        have HhB := Lib.hid hB
        clear PO PU hB
        go_wp2_with fail
        clear c0 c1 cl d0 d1 d2 d3 d4 d5
        have PO := HPO.out
        have PU := HPU.out
        have hB := HhB.out
        clear HPO HPU HhB
        have HPO := Lib.hid PO
        have HPU := Lib.hid PU
        have HhB := Lib.hid hB
        clear PO PU hB
        go_loopw [11] (fun vi wr => ∃ j : Nat, vi = .int .i64 j ∧ j ≤ N ∧ ∃ W', W' = wr ∧ Hid (Pls W' (some ⟨go, 0, none⟩) (placesOf s)) ∧ Hid (Pls W' (some ⟨gp, 0, none⟩) (placesOf u)) ∧ Hid (Below w.heap.size w W')) (fun vi _ => N - (intOf vi).toNat)
        case atStart => exact ⟨0, rfl, by omega, _, rfl, HPO, HPU, HhB⟩
        case round =>
          clear HPO HPU HhB
          obtain ⟨j, rfl, hj, wr2, rfl, HPO, HPU, HhB⟩ := hrel
          have PO := HPO.out
          have PU := HPU.out
          have hB := HhB.out
          clear HPO HPU HhB
          by_cases hj : j < N
          · by_cases hij : i = j
            · subst hij
              have m0 : ((i : Int) != (i : Int)) = false := by simp
              clear hj
              have HPO := Lib.hid PO
              have HPU := Lib.hid PU
              have HhB := Lib.hid hB
              clear PO PU hB
              go_wp2_with fail
              have PO := HPO.out
              have PU := HPU.out
              have hB := HhB.out
              clear HPO HPU HhB
              have HPO := Lib.hid PO
              have HPU := Lib.hid PU
              have HhB := Lib.hid hB
              clear PO PU hB
              go_quiet (fail)
              clear m0
              have PO := HPO.out
              have PU := HPU.out
              have hB := HhB.out
              clear HPO HPU HhB
              have hb := below_drewN (Below.refl wr2.heap.size wr2) nq
              replace PO := PO.later hb
              replace PU := PU.later hb
              replace hB := hB.trans (hb.mono hB.size)
              clear hb
              by_cases hboth : i < M ∧ i < M
              · obtain ⟨hiM, hjM⟩ := hboth
                obtain ⟨RA, hRA⟩ : ∃ R, aheadP (placesOf s) i i = R := ⟨_, rfl⟩
                obtain ⟨RP, hRP⟩ : ∃ R, parP (placesOf s) i i = R := ⟨_, rfl⟩
                have hUA : aheadP (placesOf u) i i = RA := by rw [(HAG.out i i (by rw [HM.out]; exact hiM) (by rw [HM.out]; exact hjM)).1, hRA]
                have hUP : parP (placesOf u) i i = RP := by rw [(HAG.out i i (by rw [HM.out]; exact hiM) (by rw [HM.out]; exact hjM)).2, hRP]
                have HRA := Lib.hid hRA
                have HRP := Lib.hid hRP
                have HUA := Lib.hid hUA
                have HUP := Lib.hid hUP
                clear hRA hRP hUA hUP
                have b1 : (RA != RA) = false := by simp
                have b2 : (RP != RP) = false := by simp
                have HPO := Lib.hid PO
                have HPU := Lib.hid PU
                have HhB := Lib.hid hB
                clear PO PU hB
                go_wp2_with fail
                have PO := HPO.out
                have PU := HPU.out
                have hB := HhB.out
                clear HPO HPU HhB
                refine (ahead_at (placesOf u) M HLU.out _ _ i i _ _ rfl rfl _ HUA.out (by omega) (by omega) _ PU).mono ?_
                rintro e w4 ⟨rfl, hb⟩
                replace PO := PO.later hb
                replace PU := PU.later hb
                replace hB := hB.trans (hb.mono hB.size)
                clear hb
                have HPO := Lib.hid PO
                have HPU := Lib.hid PU
                have HhB := Lib.hid hB
                clear PO PU hB
                go_wp2_with fail
                have PO := HPO.out
                have PU := HPU.out
                have hB := HhB.out
                clear HPO HPU HhB
                refine (ahead_at (placesOf s) N HLP.out _ _ i i _ _ rfl rfl _ HRA.out (by omega) (by omega) _ PO).mono ?_
                rintro e w5 ⟨rfl, hb⟩
                replace PO := PO.later hb
                replace PU := PU.later hb
                replace hB := hB.trans (hb.mono hB.size)
                clear hb
                have HPO := Lib.hid PO
                have HPU := Lib.hid PU
                have HhB := Lib.hid hB
                clear PO PU hB
                go_wp2_with fail
                have PO := HPO.out
                have PU := HPU.out
                have hB := HhB.out
                clear HPO HPU HhB
                refine (par_at (placesOf u) M HLU.out _ _ i i _ _ rfl rfl _ HUP.out (by omega) (by omega) _ PU).mono ?_
                rintro e w6 ⟨rfl, hb⟩
                replace PO := PO.later hb
                replace PU := PU.later hb
                replace hB := hB.trans (hb.mono hB.size)
                clear hb
                have HPO := Lib.hid PO
                have HPU := Lib.hid PU
                have HhB := Lib.hid hB
                clear PO PU hB
                go_wp2_with fail
                have PO := HPO.out
                have PU := HPU.out
                have hB := HhB.out
                clear HPO HPU HhB
                refine (par_at (placesOf s) N HLP.out _ _ i i _ _ rfl rfl _ HRP.out (by omega) (by omega) _ PO).mono ?_
                rintro e w7 ⟨rfl, hb⟩
                replace PO := PO.later hb
                replace PU := PU.later hb
                replace hB := hB.trans (hb.mono hB.size)
                clear hb
                have HPO := Lib.hid PO
                have HPU := Lib.hid PU
                have HhB := Lib.hid hB
                clear PO PU hB
                go_wp2_with fail
                have PO := HPO.out
                have PU := HPU.out
                have hB := HhB.out
                clear HPO HPU HhB
                have HPO := Lib.hid PO
                have HPU := Lib.hid PU
                have HhB := Lib.hid hB
                clear PO PU hB
                go_roundw
                case rel => exact ⟨i + 1, by simp, by omega, _, rfl, HPO, HPU, HhB⟩
                case measure => simp [intOf]; omega
              · have q0 : (decide ((i : Int) < (M : Int)) && decide ((i : Int) < (M : Int))) = false := by simp; omega
                by_cases hiM : i < M
                · exact absurd ⟨hiM, hiM⟩ hboth
                · clear q0 hboth
                  have HPO := Lib.hid PO
                  have HPU := Lib.hid PU
                  have HhB := Lib.hid hB
                  clear PO PU hB
                  go_wp2_with fail
                  have PO := HPO.out
                  have PU := HPU.out
                  have hB := HhB.out
                  clear HPO HPU HhB
                  have HPO := Lib.hid PO
                  have HPU := Lib.hid PU
                  have HhB := Lib.hid hB
                  clear PO PU hB
                  go_roundw
                  case rel => exact ⟨i + 1, by simp, by omega, _, rfl, HPO, HPU, HhB⟩
                  case measure => simp [intOf]; omega
            · have m0 : ((i : Int) != (j : Int)) = true := by simp; omega
              have c0 := (PO.got i (by rw [HLP.out]; exact hlt)).2.1
              have c1 := (PO.got i (by rw [HLP.out]; exact hlt)).2.2
              have cl := (PO.got i (by rw [HLP.out]; exact hlt)).1
              have e0 := (PO.got j (by rw [HLP.out]; exact hj)).2.1
              have e1 := (PO.got j (by rw [HLP.out]; exact hj)).2.2
              have hne := places_ne HOK.out i j (by rw [HN.out]; exact hlt) (by rw [HN.out]; exact hj) hij
              obtain ⟨B0, hB0⟩ : ∃ P, ((placesOf s).getD j (0, 0)).1 = P := ⟨_, rfl⟩
              obtain ⟨B1, hB1⟩ : ∃ P, ((placesOf s).getD j (0, 0)).2 = P := ⟨_, rfl⟩
              rw [HA0.out, hB0, HA1.out, hB1] at hne
              rw [HA0.out] at c0
              rw [HA1.out] at c1
              rw [hB0] at e0
              rw [hB1] at e1
              have f0 : (A0 == B0) = false := by simpa using hne.1
              have f1 : (A1 == B1) = false := by simpa using hne.2
              clear hB0 hB1 hne hij
              have HPO := Lib.hid PO
              have HPU := Lib.hid PU
              have HhB := Lib.hid hB
              clear PO PU hB
              go_wp2_with fail
              have PO := HPO.out
              have PU := HPU.out
              have hB := HhB.out
              clear HPO HPU HhB
              have HPO := Lib.hid PO
              have HPU := Lib.hid PU
              have HhB := Lib.hid hB
              clear PO PU hB
              go_quiet (fail)
              clear c0 c1 cl e0 e1 f0 f1 m0
              have PO := HPO.out
              have PU := HPU.out
              have hB := HhB.out
              clear HPO HPU HhB
              have hb := below_drewN (Below.refl wr2.heap.size wr2) nq
              replace PO := PO.later hb
              replace PU := PU.later hb
              replace hB := hB.trans (hb.mono hB.size)
              clear hb
              by_cases hboth : i < M ∧ j < M
              · obtain ⟨hiM, hjM⟩ := hboth
                obtain ⟨RA, hRA⟩ : ∃ R, aheadP (placesOf s) i j = R := ⟨_, rfl⟩
                obtain ⟨RP, hRP⟩ : ∃ R, parP (placesOf s) i j = R := ⟨_, rfl⟩
                have hUA : aheadP (placesOf u) i j = RA := by rw [(HAG.out i j (by rw [HM.out]; exact hiM) (by rw [HM.out]; exact hjM)).1, hRA]
                have hUP : parP (placesOf u) i j = RP := by rw [(HAG.out i j (by rw [HM.out]; exact hiM) (by rw [HM.out]; exact hjM)).2, hRP]
                have HRA := Lib.hid hRA
                have HRP := Lib.hid hRP
                have HUA := Lib.hid hUA
                have HUP := Lib.hid hUP
                clear hRA hRP hUA hUP
                have b1 : (RA != RA) = false := by simp
                have b2 : (RP != RP) = false := by simp
                have HPO := Lib.hid PO
                have HPU := Lib.hid PU
                have HhB := Lib.hid hB
                clear PO PU hB
                go_wp2_with fail
                have PO := HPO.out
                have PU := HPU.out
                have hB := HhB.out
                clear HPO HPU HhB
                refine (ahead_at (placesOf u) M HLU.out _ _ i j _ _ rfl rfl _ HUA.out (by omega) (by omega) _ PU).mono ?_
                rintro e w4 ⟨rfl, hb⟩
                replace PO := PO.later hb
                replace PU := PU.later hb
                replace hB := hB.trans (hb.mono hB.size)
                clear hb
                have HPO := Lib.hid PO
                have HPU := Lib.hid PU
                have HhB := Lib.hid hB
                clear PO PU hB
                go_wp2_with fail
                have PO := HPO.out
                have PU := HPU.out
                have hB := HhB.out
                clear HPO HPU HhB
                refine (ahead_at (placesOf s) N HLP.out _ _ i j _ _ rfl rfl _ HRA.out (by omega) (by omega) _ PO).mono ?_
                rintro e w5 ⟨rfl, hb⟩
                replace PO := PO.later hb
                replace PU := PU.later hb
                replace hB := hB.trans (hb.mono hB.size)
                clear hb
                have HPO := Lib.hid PO
                have HPU := Lib.hid PU
                have HhB := Lib.hid hB
                clear PO PU hB
                go_wp2_with fail
                have PO := HPO.out
                have PU := HPU.out
                have hB := HhB.out
                clear HPO HPU HhB
                refine (par_at (placesOf u) M HLU.out _ _ i j _ _ rfl rfl _ HUP.out (by omega) (by omega) _ PU).mono ?_
                rintro e w6 ⟨rfl, hb⟩
                replace PO := PO.later hb
                replace PU := PU.later hb
                replace hB := hB.trans (hb.mono hB.size)
                clear hb
                have HPO := Lib.hid PO
                have HPU := Lib.hid PU
                have HhB := Lib.hid hB
                clear PO PU hB
                go_wp2_with fail
                have PO := HPO.out
                have PU := HPU.out
                have hB := HhB.out
                clear HPO HPU HhB
                refine (par_at (placesOf s) N HLP.out _ _ i j _ _ rfl rfl _ HRP.out (by omega) (by omega) _ PO).mono ?_
                rintro e w7 ⟨rfl, hb⟩
                replace PO := PO.later hb
                replace PU := PU.later hb
                replace hB := hB.trans (hb.mono hB.size)
                clear hb
                have HPO := Lib.hid PO
                have HPU := Lib.hid PU
                have HhB := Lib.hid hB
                clear PO PU hB
                go_wp2_with fail
                have PO := HPO.out
                have PU := HPU.out
                have hB := HhB.out
                clear HPO HPU HhB
                have HPO := Lib.hid PO
                have HPU := Lib.hid PU
                have HhB := Lib.hid hB
                clear PO PU hB
                go_roundw
                case rel => exact ⟨j + 1, by simp, by omega, _, rfl, HPO, HPU, HhB⟩
                case measure => simp [intOf]; omega
              · have q0 : (decide ((i : Int) < (M : Int)) && decide ((j : Int) < (M : Int))) = false := by simp; omega
                by_cases hiM : i < M
                · have q1 : decide ((i : Int) < (M : Int)) = true := by simp; omega
                  have hjM : ¬ j < M := fun h => hboth ⟨hiM, h⟩
                  clear q0 q1 hboth
                  have HPO := Lib.hid PO
                  have HPU := Lib.hid PU
                  have HhB := Lib.hid hB
                  clear PO PU hB
                  go_wp2_with fail
                  have PO := HPO.out
                  have PU := HPU.out
                  have hB := HhB.out
                  clear HPO HPU HhB
                  have HPO := Lib.hid PO
                  have HPU := Lib.hid PU
                  have HhB := Lib.hid hB
                  clear PO PU hB
                  go_roundw
                  case rel => exact ⟨j + 1, by simp, by omega, _, rfl, HPO, HPU, HhB⟩
                  case measure => simp [intOf]; omega
                · clear q0 hboth
                  have HPO := Lib.hid PO
                  have HPU := Lib.hid PU
                  have HhB := Lib.hid hB
                  clear PO PU hB
                  go_wp2_with fail
                  have PO := HPO.out
                  have PU := HPU.out
                  have hB := HhB.out
                  clear HPO HPU HhB
                  have HPO := Lib.hid PO
                  have HPU := Lib.hid PU
                  have HhB := Lib.hid hB
                  clear PO PU hB
                  go_roundw
                  case rel => exact ⟨j + 1, by simp, by omega, _, rfl, HPO, HPU, HhB⟩
                  case measure => simp [intOf]; omega
          · obtain rfl : j = N := by omega
            have HPO := Lib.hid PO
            have HPU := Lib.hid PU
            have HhB := Lib.hid hB
            clear PO PU hB
            go_wp2_with fail
            have PO := HPO.out
            have PU := HPU.out
            have hB := HhB.out
            clear HPO HPU HhB
            have HPO := Lib.hid PO
            have HPU := Lib.hid PU
            have HhB := Lib.hid hB
            clear PO PU hB
            go_roundw
            case rel => exact ⟨i + 1, by simp, by omega, _, rfl, HPO, HPU, HhB⟩
            case measure => simp [intOf]; omega
      · obtain rfl : i = N := by omega
        have HPO := Lib.hid PO
        have HPU := Lib.hid PU
        have HhB := Lib.hid hB
        clear PO PU hB
        go_wp2_with fail
        have PO := HPO.out
        have PU := HPU.out
        have hB := HhB.out
        clear HPO HPU HhB
        go_ret
        exact ⟨rfl, hB⟩
end Go.Proofs.Ytjpimaiogdckpaa
