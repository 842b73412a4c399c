/-
  HIST: the law HistTwice.
-/
import Derived.Test.YtedgliaablokcaaRows
import Derived.ProofKit
import Derived.Deep.QuietTactic
import Derived.BigQuiet
import Derived.LoopTactic
import Derived.Test.YtedgliaablokcaaHistI
namespace Go.Proofs.Ytedgliaablokcaa
open Go.ChangeShapes Go.WideShapes Go.ChangeAt Go.RowKit

set_option maxRecDepth 100000 in
set_option maxHeartbeats 8000000 in
theorem walkHistTwice (a : Option Addr) (cap : Nat) (l : List CallV) (kind obj who step : Int) (w : World) (h : Hcs w a l) (hm : l.length ≤ maxLen) (_hk : l.length ≤ cap) (_hn : a = none → cap = 0) (_hkind : -9223372036854775808 ≤ kind ∧ kind ≤ 9223372036854775807) (_hobj : -9223372036854775808 ≤ obj ∧ obj ≤ 9223372036854775807) (_hwho : -9223372036854775808 ≤ who ∧ who ≤ 9223372036854775807) (_hstep : -9223372036854775808 ≤ step ∧ step ≤ 9223372036854775807) :
    Calls Try.prog 6 #[.agg #[.slice a l.length cap, .int .i64 kind, .int .i64 obj, .int .i64 who, .int .i64 step]] w fun e w' => e = .returned (.bool true) ∧ Below w.heap.size w w' := by
  obtain ⟨n, hn⟩ : ∃ n, l.length = n := ⟨_, rfl⟩
  have HN := Lib.hid hn
  have HH := Lib.hid fun wx (hb : Below w.heap.size w wx) => h.later hb
  rw [hn] at hm ⊢
  unfold maxLen at hm
  clear hn h
  obtain ⟨FO, hFO⟩ : ∃ F, F = fun c : CallV => (kindOf c.kind == kind) && (c.obj == obj) := ⟨_, rfl⟩
  obtain ⟨FS, hFS⟩ : ∃ F, F = fun c : CallV => c.who == who := ⟨_, rfl⟩
  obtain ⟨FU, hFU⟩ : ∃ F, F = fun c : CallV => decide (c.last ≤ step) := ⟨_, rfl⟩
  have HO := Lib.hid fun X m hm p c wx hx hle => hof_n X m hm p c kind obj wx hx hle
  have HS := Lib.hid fun X m hm p c wx hx hle => hseat_n X m hm p c who wx hx hle
  have HU := Lib.hid fun X m hm p c wx hx hle => hupto_n X m hm p c step wx hx hle
  rw [← hFO] at HO
  rw [← hFS] at HS
  rw [← hFU] at HU
  clear hFO hFS hFU
  obtain ⟨A, hA⟩ : ∃ A, l.filter FO = A := ⟨_, rfl⟩
  obtain ⟨B, hB⟩ : ∃ A, l.filter FS = A := ⟨_, rfl⟩
  obtain ⟨C, hC⟩ : ∃ A, l.filter FU = A := ⟨_, rfl⟩
  obtain ⟨X, hX⟩ : ∃ X, A.filter FS = X := ⟨_, rfl⟩
  obtain ⟨Y, hY⟩ : ∃ X, B.filter FU = X := ⟨_, rfl⟩
  obtain ⟨Z, hZ⟩ : ∃ X, A.filter FU = X := ⟨_, rfl⟩
  have hAA : Hid (A.filter FO = A) := Lib.hid (by rw [← hA]; exact filter_same FO l)
  have hX2 : Hid (B.filter FO = X) := Lib.hid (by rw [← hX, ← hA, ← hB]; exact filter_comm _ _ _)
  have hY2 : Hid (C.filter FS = Y) := Lib.hid (by rw [← hY, ← hB, ← hC]; exact filter_comm _ _ _)
  have hZ2 : Hid (C.filter FO = Z) := Lib.hid (by rw [← hZ, ← hA, ← hC]; exact filter_comm _ _ _)
  have nA : A.length ≤ n := by rw [← hA]; exact filter_le _ _ _ HN.out
  have nB : B.length ≤ n := by rw [← hB]; exact filter_le _ _ _ HN.out
  have nC : C.length ≤ n := by rw [← hC]; exact filter_le _ _ _ HN.out
  have nX : X.length ≤ n := by rw [← hX]; exact Nat.le_trans (filter_le _ _ _ rfl) nA
  have nY : Y.length ≤ n := by rw [← hY]; exact Nat.le_trans (filter_le _ _ _ rfl) nB
  have nZ : Z.length ≤ n := by rw [← hZ]; exact Nat.le_trans (filter_le _ _ _ rfl) nA
  obtain ⟨na, ha⟩ : ∃ m, A.length = m := ⟨_, rfl⟩
  obtain ⟨nb, hb⟩ : ∃ m, B.length = m := ⟨_, rfl⟩
  obtain ⟨nc, hc⟩ : ∃ m, C.length = m := ⟨_, rfl⟩
  obtain ⟨nx, hx⟩ : ∃ m, X.length = m := ⟨_, rfl⟩
  obtain ⟨ny, hy⟩ : ∃ m, Y.length = m := ⟨_, rfl⟩
  obtain ⟨nz, hz⟩ : ∃ m, Z.length = m := ⟨_, rfl⟩
  rw [ha] at nA
  rw [hb] at nB
  rw [hc] at nC
  rw [hx] at nX
  rw [hy] at nY
  rw [hz] at nZ
  have HAA := Lib.hid hA
  have LA := Lib.hid ha
  have HBB := Lib.hid hB
  have LB := Lib.hid hb
  have HCC := Lib.hid hC
  have LC := Lib.hid hc
  have HXX := Lib.hid hX
  have LX := Lib.hid hx
  have HYY := Lib.hid hY
  have LY := Lib.hid hy
  have HZZ := Lib.hid hZ
  have LZ := Lib.hid hz
  clear hA hB hC hX hY hZ ha hb hc hx hy hz
  go_enter Try.func6, Try.ntmps6
  go_wp2_with fail
  refine (shown_any _).mono ?_
  rintro e w1 ⟨rfl, hb1⟩
  have hB1 : Below w.heap.size w w1 := (below_alloc1 w _).trans (hb1.mono (below_alloc1 w _).size)
  by_cases hbig : 40 < n
  · go_wp2_with fail
    go_ret
    exact ⟨rfl, hB1⟩
  have h40 : decide (40 < (n : Int)) = false := by simp; omega
  go_wp2_with fail
  refine (HO.out l _ HN.out _ _ _ (HH.out _ hB1) (by omega)).mono ?_
  rintro e w2 hp
  obtain ⟨pA, cA, rfl, kA, hb2⟩ := hp.at HAA.out LA.out
  have hB2 := hB1.trans (hb2.mono hB1.size)
  go_wp2_with fail
  refine (HS.out l _ HN.out _ _ _ (HH.out _ hB2) (by omega)).mono ?_
  rintro e w3 hp
  obtain ⟨pB, cB, rfl, kB, hb3⟩ := hp.at HBB.out LB.out
  have hB3 := hB2.trans (hb3.mono hB2.size)
  go_wp2_with fail
  refine (HU.out l _ HN.out _ _ _ (HH.out _ hB3) (by omega)).mono ?_
  rintro e w4 hp
  obtain ⟨pC, cC, rfl, kC, hb4⟩ := hp.at HCC.out LC.out
  have hB4 := hB3.trans (hb4.mono hB3.size)
  have KA := kA.later (below_trans hb3 hb4)
  have KB := kB.later hb4
  have KC := kC
  clear kA kB kC
  go_wp2_with fail
  refine (HO.out A _ LA.out _ _ _ KA (by omega)).mono ?_
  rintro e w5 hp
  obtain ⟨p1, c1, rfl, k1, hb5⟩ := hp.at hAA.out LA.out
  have hB5 := hB4.trans (hb5.mono hB4.size)
  replace KA := KA.later hb5
  replace KB := KB.later hb5
  replace KC := KC.later hb5
  go_wp2_with fail
  refine (same_n _ _ _ _ LA.out LA.out true (decide_eq_true rfl) _ _ _ _ _ k1 KA (by omega) (by omega)).mono ?_
  rintro e w6 ⟨rfl, hb6⟩
  have hB6 := hB5.trans (hb6.mono hB5.size)
  replace KA := KA.later hb6
  replace KB := KB.later hb6
  replace KC := KC.later hb6
  go_wp2_with fail
  refine (HS.out A _ LA.out _ _ _ KA (by omega)).mono ?_
  rintro e w7 hp
  obtain ⟨p2, c2, rfl, k2, hb7⟩ := hp.at HXX.out LX.out
  have hB7 := hB6.trans (hb7.mono hB6.size)
  replace KA := KA.later hb7
  replace KB := KB.later hb7
  replace KC := KC.later hb7
  go_wp2_with fail
  refine (HO.out B _ LB.out _ _ _ KB (by omega)).mono ?_
  rintro e w8 hp
  obtain ⟨p3, c3, rfl, k3, hb8⟩ := hp.at hX2.out LX.out
  have hB8 := hB7.trans (hb8.mono hB7.size)
  replace KA := KA.later hb8
  replace KB := KB.later hb8
  replace KC := KC.later hb8
  have k2b := k2.later hb8
  go_wp2_with fail
  refine (same_n _ _ _ _ LX.out LX.out true (decide_eq_true rfl) _ _ _ _ _ k2b k3 (by omega) (by omega)).mono ?_
  rintro e w9 ⟨rfl, hb9⟩
  have hB9 := hB8.trans (hb9.mono hB8.size)
  replace KA := KA.later hb9
  replace KB := KB.later hb9
  replace KC := KC.later hb9
  go_wp2_with fail
  refine (HU.out B _ LB.out _ _ _ KB (by omega)).mono ?_
  rintro e w10 hp
  obtain ⟨p4, c4, rfl, k4, hb10⟩ := hp.at HYY.out LY.out
  have hB10 := hB9.trans (hb10.mono hB9.size)
  replace KA := KA.later hb10
  replace KB := KB.later hb10
  replace KC := KC.later hb10
  go_wp2_with fail
  refine (HS.out C _ LC.out _ _ _ KC (by omega)).mono ?_
  rintro e w11 hp
  obtain ⟨p5, c5, rfl, k5, hb11⟩ := hp.at hY2.out LY.out
  have hB11 := hB10.trans (hb11.mono hB10.size)
  replace KA := KA.later hb11
  replace KB := KB.later hb11
  replace KC := KC.later hb11
  have k4b := k4.later hb11
  go_wp2_with fail
  refine (same_n _ _ _ _ LY.out LY.out true (decide_eq_true rfl) _ _ _ _ _ k4b k5 (by omega) (by omega)).mono ?_
  rintro e w12 ⟨rfl, hb12⟩
  have hB12 := hB11.trans (hb12.mono hB11.size)
  replace KA := KA.later hb12
  replace KB := KB.later hb12
  replace KC := KC.later hb12
  go_wp2_with fail
  refine (HU.out A _ LA.out _ _ _ KA (by omega)).mono ?_
  rintro e w13 hp
  obtain ⟨p6, c6, rfl, k6, hb13⟩ := hp.at HZZ.out LZ.out
  have hB13 := hB12.trans (hb13.mono hB12.size)
  replace KA := KA.later hb13
  replace KB := KB.later hb13
  replace KC := KC.later hb13
  go_wp2_with fail
  refine (HO.out C _ LC.out _ _ _ KC (by omega)).mono ?_
  rintro e w14 hp
  obtain ⟨p7, c7, rfl, k7, hb14⟩ := hp.at hZ2.out LZ.out
  have hB14 := hB13.trans (hb14.mono hB13.size)
  replace KA := KA.later hb14
  replace KB := KB.later hb14
  replace KC := KC.later hb14
  have k6b := k6.later hb14
  go_wp2_with fail
  refine (same_n _ _ _ _ LZ.out LZ.out true (decide_eq_true rfl) _ _ _ _ _ k6b k7 (by omega) (by omega)).mono ?_
  rintro e w15 ⟨rfl, hb15⟩
  have hB15 := hB14.trans (hb15.mono hB14.size)
  go_wp2_with fail
  go_ret
  exact ⟨rfl, hB15⟩
end Go.Proofs.Ytedgliaablokcaa
