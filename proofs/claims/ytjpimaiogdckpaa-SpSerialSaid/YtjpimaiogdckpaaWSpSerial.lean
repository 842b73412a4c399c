/-
  SP: the law SpSerial.
-/
import Derived.Test.YtjpimaiogdckpaaSpX
import Derived.Test.YtjpimaiogdckpaaSpS
import Derived.LoopTactic
import Derived.Deep.QuietTactic
import Derived.BigQuiet
namespace Go.Proofs.Ytjpimaiogdckpaa
open Go.ChangeShapes Go.WideShapes Go.ChangeAt Go.RowKit

set_option maxRecDepth 100000 in
set_option maxHeartbeats 8000000 in
theorem walkSpSerial (p : Option Addr) (cap : Nat) (l : List SplV) (w : World) (S0 : Sds w p l) (hm : l.length ≤ maxLen) (hk : l.length ≤ cap) (hn : p = none → cap = 0) :
    Calls Try.prog 6 #[.slice p l.length cap] w fun e w' => e = .returned (.bool true) ∧ Below w.heap.size w w' := by
  obtain ⟨n, hn0⟩ : ∃ n, l.length = n := ⟨_, rfl⟩
  have HL := Lib.hid hn0
  have hB := Below.refl w.heap.size w
  rw [hn0] at hm hk ⊢
  clear hn0 hm
  go_enter Try.func6, Try.ntmps6
  have HS0 := Lib.hid S0
  have HhB := Lib.hid hB
  clear S0 hB
  go_wp2_with fail
  have S0 := HS0.out
  have hB := HhB.out
  clear HS0 HhB
  refine (awake_any _).mono ?_
  rintro e w1 ⟨rfl, hb⟩
  replace S0 := S0.later hb
  replace hB := hB.trans (hb.mono hB.size)
  clear hb
  by_cases h40 : 40 < n
  · have d1 : decide (40 < (n : Int)) = true := by simp; omega
    have HS0 := Lib.hid S0
    have HhB := Lib.hid hB
    clear S0 hB
    go_wp2_with fail
    have S0 := HS0.out
    have hB := HhB.out
    clear HS0 HhB
    go_ret
    exact ⟨rfl, hB⟩
  have d1 : decide (40 < (n : Int)) = false := by simp; omega
  have HS0 := Lib.hid S0
  have HhB := Lib.hid hB
  clear S0 hB
  go_wp2_with fail
  have S0 := HS0.out
  have hB := HhB.out
  clear HS0 HhB
  cases hrun : spRun .zero l with
  | none =>
    refine (of_no l n HL.out (by omega) hrun _ _ _ S0).mono ?_
    rintro e w2 ⟨rfl, hb⟩
    replace S0 := S0.later hb
    replace hB := hB.trans (hb.mono hB.size)
    clear hb
    clear hrun
    have HS0 := Lib.hid S0
    have HhB := Lib.hid hB
    clear S0 hB
    go_wp2_with fail
    have S0 := HS0.out
    have hB := HhB.out
    clear HS0 HhB
    go_ret
    exact ⟨rfl, hB⟩
  | some s =>
    refine (of_ok l n HL.out (by omega) s hrun _ _ _ S0).mono ?_
    rintro e w2 ⟨go, rfl, -, PO, hb⟩
    replace S0 := S0.later hb
    replace hB := hB.trans (hb.mono hB.size)
    clear hb
    obtain ⟨hsok, -, -, hn1, hn2⟩ := run_ok l zero_ok (by show 1 + 3 * l.length ≤ 1000; have := HL.out; omega) hrun
    replace hn1 : 1 ≤ s.n := hn1
    replace hn2 : s.n ≤ 1 + 3 * 40 := by have h := HL.out; dsimp only [SpS.zero] at hn2; omega
    obtain ⟨N, hN⟩ : ∃ N, s.n = N := ⟨_, rfl⟩
    have HN := Lib.hid hN
    have HLP : Hid ((placesOf s).length = N) := Lib.hid (by rw [placesOf_len, hN])
    have HOK := Lib.hid hsok
    have HRUN := Lib.hid hrun
    rw [hN] at hn1 hn2 ⊢
    clear hN hsok hrun
    have HS0 := Lib.hid S0
    have HPO := Lib.hid PO
    have HhB := Lib.hid hB
    clear S0 PO hB
    go_wp2_with fail
    have S0 := HS0.out
    have PO := HPO.out
    have hB := HhB.out
    clear HS0 HPO HhB
    have HS0 := Lib.hid S0
    have HPO := Lib.hid PO
    have HhB := Lib.hid hB
    clear S0 PO hB
    go_loopw [6, 7] (fun va vi wr => ∃ (i at_ : Nat) (u : SpS), va = .int .i64 at_ ∧ vi = .int .i64 i ∧ i ≤ n ∧ Hid (spRun .zero (l.take i) = some u) ∧ Hid (Ser u at_) ∧ ∃ W', W' = wr ∧ Hid (Sds W' p l) ∧ Hid (Pls W' (some ⟨go, 0, none⟩) (placesOf s)) ∧ Hid (Below w.heap.size w W')) (fun _ vi _ => n - (intOf vi).toNat)
    case atStart => exact ⟨0, 0, _, rfl, rfl, by omega, Lib.hid rfl, Lib.hid ser_zero, _, rfl, HS0, HPO, HhB⟩
    case round =>
      clear HS0 HPO HhB
      obtain ⟨i, at_, u, rfl, rfl, hi, HU, HSR, wr, rfl, HS0, HPO, HhB⟩ := hrel
      by_cases hlt : i < n
      · have hil : i < l.length := by rw [HL.out]; exact hlt
        obtain ⟨t, ht, hk2, hkn⟩ := ser_places (by rw [HL.out]; omega) hil HRUN.out HU.out HSR.out
        have HT := Lib.hid ht
        obtain ⟨⟨kd, A, B, C, D⟩, hx⟩ : ∃ x, l[i] = x := ⟨_, rfl⟩
        rw [hx] at hk2 hkn
        dsimp only at hk2 hkn
        have hat := HS0.out.at_ i hil
        rw [hx] at hat
        obtain ⟨b, off, rfl, hbl, g0, g1, g2, g3, g4⟩ := hat
        dsimp only at g0 g1 g2 g3 g4
        clear hx ht
        obtain ⟨V1, hV1⟩ : ∃ V1, V1 = wr.alloc (Obj.cells #[.int .i64 kd, .int .i64 A, .int .i64 B, .int .i64 C, .int .i64 D] 37) := ⟨_, rfl⟩
        have hbv : Below wr.heap.size wr V1 := by rw [hV1]; exact below_alloc1 _ _
        have S0 := HS0.out
        have PO := HPO.out
        have hB := HhB.out
        clear HS0 HPO HhB
        replace S0 := S0.later hbv
        replace PO := PO.later hbv
        replace hB := hB.trans (hbv.mono hB.size)
        clear hbv
        have HV1 := Lib.hid hV1
        clear hV1
        by_cases e2 : kd = 2
        · have HSE := Lib.hid (hk2 e2)
          subst e2
          clear hk2 hkn
          have HS0 := Lib.hid S0
          have HPO := Lib.hid PO
          have HhB := Lib.hid hB
          clear S0 PO hB
          go_wp2_with fail
          have S0 := HS0.out
          have PO := HPO.out
          have hB := HhB.out
          clear HS0 HPO HhB
          rw [← HV1.out]
          have HS0 := Lib.hid S0
          have HPO := Lib.hid PO
          have HhB := Lib.hid hB
          clear S0 PO hB
          go_roundw
          case rel => exact ⟨i + 1, at_, t, by simp, by simp, by omega, HT, HSE, _, rfl, HS0, HPO, HhB⟩
          case measure => simp [intOf]; omega
        obtain ⟨q, hnx, hse, hqN, haN, hpl⟩ := hkn e2
        have HSE := Lib.hid hse
        rw [HN.out] at hqN haN
        have HPL := Lib.hid hpl
        have e2' : (kd == 2) = false := by simp [e2]
        clear hk2 hkn hse hpl
        by_cases e1 : kd = 1
        · subst e1
          obtain rfl : B = (q : Int) := hnx
          clear e2 e2'
          have c0 := (PO.got q (by rw [HLP.out]; exact hqN)).2.1
          have c1 := (PO.got at_ (by rw [HLP.out]; exact haN)).2.1
          have cl := (PO.got q (by rw [HLP.out]; exact hqN)).1
          obtain ⟨P1, hP1⟩ : ∃ P, ((placesOf s).getD q (0, 0)).1 = P := ⟨_, rfl⟩
          obtain ⟨P2, hP2⟩ : ∃ P, ((placesOf s).getD at_ (0, 0)).1 = P := ⟨_, rfl⟩
          rw [hP1] at c0
          rw [hP2] at c1
          have dle : decide (P1 ≤ P2) = false := by have h := HPL.out; rw [hP1, hP2] at h; simp; omega
          clear hP1 hP2
          rw [HV1.out] at c0 c1 cl
          have HS0 := Lib.hid S0
          have HPO := Lib.hid PO
          have HhB := Lib.hid hB
          clear S0 PO hB
          go_wp2_with fail
          have S0 := HS0.out
          have PO := HPO.out
          have hB := HhB.out
          clear HS0 HPO HhB
          rw [← HV1.out]
          rw [← HV1.out] at c0 c1 cl
          have HS0 := Lib.hid S0
          have HPO := Lib.hid PO
          have HhB := Lib.hid hB
          clear S0 PO hB
          go_quiet (fail)
          go_wp2_with fail
          have S0 := HS0.out
          have PO := HPO.out
          have hB := HhB.out
          clear HS0 HPO HhB
          clear c0 c1 cl
          have hb := below_drewN (Below.refl V1.heap.size V1) nq
          replace S0 := S0.later hb
          replace PO := PO.later hb
          replace hB := hB.trans (hb.mono hB.size)
          clear hb
          have HS0 := Lib.hid S0
          have HPO := Lib.hid PO
          have HhB := Lib.hid hB
          clear S0 PO hB
          go_roundw
          case rel => exact ⟨i + 1, q, t, by simp, by simp, by omega, HT, HSE, _, rfl, HS0, HPO, HhB⟩
          case measure => simp [intOf]; omega
        · have e1' : (kd == 1) = false := by simp [e1]
          obtain rfl : D = (q : Int) := by have h := hnx; unfold nextOf at h; rwa [if_neg e1] at h
          clear hnx
          have c0 := (PO.got q (by rw [HLP.out]; exact hqN)).2.1
          have c1 := (PO.got at_ (by rw [HLP.out]; exact haN)).2.1
          have cl := (PO.got q (by rw [HLP.out]; exact hqN)).1
          obtain ⟨P1, hP1⟩ : ∃ P, ((placesOf s).getD q (0, 0)).1 = P := ⟨_, rfl⟩
          obtain ⟨P2, hP2⟩ : ∃ P, ((placesOf s).getD at_ (0, 0)).1 = P := ⟨_, rfl⟩
          rw [hP1] at c0
          rw [hP2] at c1
          have dle : decide (P1 ≤ P2) = false := by have h := HPL.out; rw [hP1, hP2] at h; simp; omega
          clear hP1 hP2
          rw [HV1.out] at c0 c1 cl
          have HS0 := Lib.hid S0
          have HPO := Lib.hid PO
          have HhB := Lib.hid hB
          clear S0 PO hB
          go_wp2_with fail
          have S0 := HS0.out
          have PO := HPO.out
          have hB := HhB.out
          clear HS0 HPO HhB
          rw [← HV1.out]
          rw [← HV1.out] at c0 c1 cl
          have HS0 := Lib.hid S0
          have HPO := Lib.hid PO
          have HhB := Lib.hid hB
          clear S0 PO hB
          go_quiet (fail)
          go_wp2_with fail
          have S0 := HS0.out
          have PO := HPO.out
          have hB := HhB.out
          clear HS0 HPO HhB
          clear c0 c1 cl
          have hb := below_drewN (Below.refl V1.heap.size V1) nq
          replace S0 := S0.later hb
          replace PO := PO.later hb
          replace hB := hB.trans (hb.mono hB.size)
          clear hb
          have HS0 := Lib.hid S0
          have HPO := Lib.hid PO
          have HhB := Lib.hid hB
          clear S0 PO hB
          go_roundw
          case rel => exact ⟨i + 1, q, t, by simp, by simp, by omega, HT, HSE, _, rfl, HS0, HPO, HhB⟩
          case measure => simp [intOf]; omega
      · obtain rfl : i = n := by omega
        have S0 := HS0.out
        have PO := HPO.out
        have hB := HhB.out
        clear HS0 HPO HhB
        have HS0 := Lib.hid S0
        have HPO := Lib.hid PO
        have HhB := Lib.hid hB
        clear S0 PO hB
        go_wp2_with fail
        have S0 := HS0.out
        have PO := HPO.out
        have hB := HhB.out
        clear HS0 HPO HhB
        go_ret
        exact ⟨rfl, hB⟩
end Go.Proofs.Ytjpimaiogdckpaa
