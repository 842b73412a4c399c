/-
  SP: the law SpEither.
-/
import Derived.Test.YtjpimaiogdckpaaSpV
namespace Go.Proofs.Ytjpimaiogdckpaa
open Go.ChangeShapes Go.WideShapes Go.ChangeAt Go.RowKit

set_option maxRecDepth 100000 in
set_option maxHeartbeats 8000000 in
theorem walkSpEither (p : Option Addr) (cap : Nat) (l : List SplV) (a b c : Int) (w : World) (S0 : Sds w p l) (hm : l.length ≤ maxLen) (hk : l.length ≤ cap) (hn : p = none → cap = 0) (ha : 0 ≤ a ∧ a ≤ 255) (hb : 0 ≤ b ∧ b ≤ 255) (hc : 0 ≤ c ∧ c ≤ 255) :
    Calls Try.prog 4 #[.slice p l.length cap, .int .u8 a, .int .u8 b, .int .u8 c] w fun e w' => e = .returned (.bool true) ∧ Below w.heap.size w w' := by
  obtain ⟨n, hn0⟩ : ∃ n, l.length = n := ⟨_, rfl⟩
  have HL := Lib.hid hn0
  have hB := Below.refl w.heap.size w
  rw [hn0] at hm hk ⊢
  clear hn0 hm
  go_enter Try.func4, Try.ntmps4
  have HS0 := Lib.hid S0
  have HhB := Lib.hid hB
  clear S0 hB
  go_wp2_with fail
  have S0 := HS0.out
  have hB := HhB.out
  clear HS0 HhB
  refine (awake_any _).mono ?_
  rintro e w1 ⟨rfl, hb⟩
  replace S0 := S0.later hb
  replace hB := hB.trans (hb.mono hB.size)
  clear hb
  by_cases h40 : 40 < n
  · have d1 : decide (40 < (n : Int)) = true := by simp; omega
    have HS0 := Lib.hid S0
    have HhB := Lib.hid hB
    clear S0 hB
    go_wp2_with fail
    have S0 := HS0.out
    have hB := HhB.out
    clear HS0 HhB
    go_ret
    exact ⟨rfl, hB⟩
  have d1 : decide (40 < (n : Int)) = false := by simp; omega
  have HS0 := Lib.hid S0
  have HhB := Lib.hid hB
  clear S0 hB
  go_wp2_with fail
  have S0 := HS0.out
  have hB := HhB.out
  clear HS0 HhB
  cases hrun : spRun .zero l with
  | none =>
    refine (of_no l n HL.out (by omega) hrun _ _ _ S0).mono ?_
    rintro e w2 ⟨rfl, hb⟩
    replace S0 := S0.later hb
    replace hB := hB.trans (hb.mono hB.size)
    clear hb
    clear hrun
    have HS0 := Lib.hid S0
    have HhB := Lib.hid hB
    clear S0 hB
    go_wp2_with fail
    have S0 := HS0.out
    have hB := HhB.out
    clear HS0 HhB
    go_ret
    exact ⟨rfl, hB⟩
  | some s =>
    refine (of_ok l n HL.out (by omega) s hrun _ _ _ S0).mono ?_
    rintro e w2 ⟨go, rfl, -, PO, hb⟩
    replace S0 := S0.later hb
    replace hB := hB.trans (hb.mono hB.size)
    clear hb
    obtain ⟨hsok, -, -, hn1, hn2⟩ := run_ok l zero_ok (by show 1 + 3 * l.length ≤ 1000; have := HL.out; omega) hrun
    replace hn1 : 1 ≤ s.n := hn1
    replace hn2 : s.n ≤ 1 + 3 * 40 := by have h := HL.out; dsimp only [SpS.zero] at hn2; omega
    obtain ⟨N, hN⟩ : ∃ N, s.n = N := ⟨_, rfl⟩
    have HN := Lib.hid hN
    have HLP : Hid ((placesOf s).length = N) := Lib.hid (by rw [placesOf_len, hN])
    have HOK := Lib.hid hsok
    have HRUN := Lib.hid hrun
    rw [hN] at hn1 hn2 ⊢
    clear hN hsok hrun
    obtain ⟨x, hx⟩ : ∃ k : Nat, Int.tmod a N = (k : Int) := ⟨(Int.tmod a N).toNat, by rw [Int.tmod_eq_emod_of_nonneg ha.1]; have := Int.emod_nonneg a (show (N : Int) ≠ 0 by omega); omega⟩
    have hxN : x < N := by rw [Int.tmod_eq_emod_of_nonneg ha.1] at hx; have := Int.emod_lt_of_pos a (show (0 : Int) < N by omega); omega
    have wx : IntKind.i64.wrap (x : Int) = x := by rw [IntKind.wrap_i64]; omega
    obtain ⟨y, hy⟩ : ∃ k : Nat, Int.tmod b N = (k : Int) := ⟨(Int.tmod b N).toNat, by rw [Int.tmod_eq_emod_of_nonneg hb.1]; have := Int.emod_nonneg b (show (N : Int) ≠ 0 by omega); omega⟩
    have hyN : y < N := by rw [Int.tmod_eq_emod_of_nonneg hb.1] at hy; have := Int.emod_lt_of_pos b (show (0 : Int) < N by omega); omega
    have wy : IntKind.i64.wrap (y : Int) = y := by rw [IntKind.wrap_i64]; omega
    obtain ⟨z, hz⟩ : ∃ k : Nat, Int.tmod c N = (k : Int) := ⟨(Int.tmod c N).toNat, by rw [Int.tmod_eq_emod_of_nonneg hc.1]; have := Int.emod_nonneg c (show (N : Int) ≠ 0 by omega); omega⟩
    have hzN : z < N := by rw [Int.tmod_eq_emod_of_nonneg hc.1] at hz; have := Int.emod_lt_of_pos c (show (0 : Int) < N by omega); omega
    have wz : IntKind.i64.wrap (z : Int) = z := by rw [IntKind.wrap_i64]; omega
    have nz : (N : Int) ≠ 0 := by omega
    have nz2 : ((N : Int) == 0) = false := by simp; omega
    have nz3 : decide ((N : Int) = 0) = false := by simp; omega
    by_cases hxy : x = y
    · have hP : aheadP (placesOf s) x y = false := by subst hxy; exact ahead_self HOK.out x (by rw [HN.out]; exact hxN)
      have hQ : aheadP (placesOf s) y x = false := by subst hxy; exact ahead_self HOK.out x (by rw [HN.out]; exact hxN)
      have hR : parP (placesOf s) x y = false := by subst hxy; exact par_self _ _
      have m1 : ((x : Int) == (y : Int)) = true := by simp; omega
      have m2 : decide ((x : Int) = (y : Int)) = true := by simp; omega
      have HXY := Lib.hid hxy
      clear hxy
      have HS0 := Lib.hid S0
      have HPO := Lib.hid PO
      have HhB := Lib.hid hB
      clear S0 PO hB
      go_wp2_with fail
      have S0 := HS0.out
      have PO := HPO.out
      have hB := HhB.out
      clear HS0 HPO HhB
      refine (ahead_at (placesOf s) N HLP.out _ _ x y _ _ rfl rfl false hP hxN hyN _ PO).mono ?_
      rintro e w3 ⟨rfl, hb⟩
      replace S0 := S0.later hb
      replace PO := PO.later hb
      replace hB := hB.trans (hb.mono hB.size)
      clear hb
      have HS0 := Lib.hid S0
      have HPO := Lib.hid PO
      have HhB := Lib.hid hB
      clear S0 PO hB
      go_wp2_with fail
      have S0 := HS0.out
      have PO := HPO.out
      have hB := HhB.out
      clear HS0 HPO HhB
      refine (ahead_at (placesOf s) N HLP.out _ _ y x _ _ rfl rfl false hQ hyN hxN _ PO).mono ?_
      rintro e w4 ⟨rfl, hb⟩
      replace S0 := S0.later hb
      replace PO := PO.later hb
      replace hB := hB.trans (hb.mono hB.size)
      clear hb
      have HS0 := Lib.hid S0
      have HPO := Lib.hid PO
      have HhB := Lib.hid hB
      clear S0 PO hB
      go_wp2_with fail
      have S0 := HS0.out
      have PO := HPO.out
      have hB := HhB.out
      clear HS0 HPO HhB
      refine (par_at (placesOf s) N HLP.out _ _ x y _ _ rfl rfl false hR hxN hyN _ PO).mono ?_
      rintro e w5 ⟨rfl, hb⟩
      replace S0 := S0.later hb
      replace PO := PO.later hb
      replace hB := hB.trans (hb.mono hB.size)
      clear hb
      have HS0 := Lib.hid S0
      have HPO := Lib.hid PO
      have HhB := Lib.hid hB
      clear S0 PO hB
      go_wp2_with fail
      have S0 := HS0.out
      have PO := HPO.out
      have hB := HhB.out
      clear HS0 HPO HhB
      go_ret
      exact ⟨rfl, hB⟩
    have m1 : ((x : Int) == (y : Int)) = false := by simp; omega
    have m2 : decide ((x : Int) = (y : Int)) = false := by simp; omega
    have hcase := one_of HOK.out x y (by rw [HN.out]; exact hxN) (by rw [HN.out]; exact hyN) hxy
    have hcomm := par_comm (placesOf s) y x
    have HTR : Hid (aheadP (placesOf s) x y = true → aheadP (placesOf s) y z = true → aheadP (placesOf s) x z = true) := Lib.hid (ahead_trans HOK.out x y z (by rw [HN.out]; exact hxN) (by rw [HN.out]; exact hyN) (by rw [HN.out]; exact hzN))
    clear hxy
    rcases hcase with ⟨hP, hQ, hR⟩ | ⟨hP, hQ, hR⟩ | ⟨hP, hQ, hR⟩
    · have hR2 := hcomm.trans hR
      clear hcomm
      have HS0 := Lib.hid S0
      have HPO := Lib.hid PO
      have HhB := Lib.hid hB
      clear S0 PO hB
      go_wp2_with fail
      have S0 := HS0.out
      have PO := HPO.out
      have hB := HhB.out
      clear HS0 HPO HhB
      refine (ahead_at (placesOf s) N HLP.out _ _ x y _ _ rfl rfl true hP hxN hyN _ PO).mono ?_
      rintro e w3 ⟨rfl, hb⟩
      replace S0 := S0.later hb
      replace PO := PO.later hb
      replace hB := hB.trans (hb.mono hB.size)
      clear hb
      have HS0 := Lib.hid S0
      have HPO := Lib.hid PO
      have HhB := Lib.hid hB
      clear S0 PO hB
      go_wp2_with fail
      have S0 := HS0.out
      have PO := HPO.out
      have hB := HhB.out
      clear HS0 HPO HhB
      refine (ahead_at (placesOf s) N HLP.out _ _ y x _ _ rfl rfl false hQ hyN hxN _ PO).mono ?_
      rintro e w4 ⟨rfl, hb⟩
      replace S0 := S0.later hb
      replace PO := PO.later hb
      replace hB := hB.trans (hb.mono hB.size)
      clear hb
      have HS0 := Lib.hid S0
      have HPO := Lib.hid PO
      have HhB := Lib.hid hB
      clear S0 PO hB
      go_wp2_with fail
      have S0 := HS0.out
      have PO := HPO.out
      have hB := HhB.out
      clear HS0 HPO HhB
      refine (par_at (placesOf s) N HLP.out _ _ x y _ _ rfl rfl false hR hxN hyN _ PO).mono ?_
      rintro e w5 ⟨rfl, hb⟩
      replace S0 := S0.later hb
      replace PO := PO.later hb
      replace hB := hB.trans (hb.mono hB.size)
      clear hb
      have HS0 := Lib.hid S0
      have HPO := Lib.hid PO
      have HhB := Lib.hid hB
      clear S0 PO hB
      go_wp2_with fail
      have S0 := HS0.out
      have PO := HPO.out
      have hB := HhB.out
      clear HS0 HPO HhB
      refine (par_at (placesOf s) N HLP.out _ _ x y _ _ rfl rfl false hR hxN hyN _ PO).mono ?_
      rintro e w6 ⟨rfl, hb⟩
      replace S0 := S0.later hb
      replace PO := PO.later hb
      replace hB := hB.trans (hb.mono hB.size)
      clear hb
      have HS0 := Lib.hid S0
      have HPO := Lib.hid PO
      have HhB := Lib.hid hB
      clear S0 PO hB
      go_wp2_with fail
      have S0 := HS0.out
      have PO := HPO.out
      have hB := HhB.out
      clear HS0 HPO HhB
      refine (par_at (placesOf s) N HLP.out _ _ y x _ _ rfl rfl false hR2 hyN hxN _ PO).mono ?_
      rintro e w7 ⟨rfl, hb⟩
      replace S0 := S0.later hb
      replace PO := PO.later hb
      replace hB := hB.trans (hb.mono hB.size)
      clear hb
      have HS0 := Lib.hid S0
      have HPO := Lib.hid PO
      have HhB := Lib.hid hB
      clear S0 PO hB
      go_wp2_with fail
      have S0 := HS0.out
      have PO := HPO.out
      have hB := HhB.out
      clear HS0 HPO HhB
      refine (ahead_at (placesOf s) N HLP.out _ _ x y _ _ rfl rfl true hP hxN hyN _ PO).mono ?_
      rintro e w8 ⟨rfl, hb⟩
      replace S0 := S0.later hb
      replace PO := PO.later hb
      replace hB := hB.trans (hb.mono hB.size)
      clear hb
      have HS0 := Lib.hid S0
      have HPO := Lib.hid PO
      have HhB := Lib.hid hB
      clear S0 PO hB
      go_wp2_with fail
      have S0 := HS0.out
      have PO := HPO.out
      have hB := HhB.out
      clear HS0 HPO HhB
      cases hS : aheadP (placesOf s) y z with
      | false =>
        refine (ahead_at (placesOf s) N HLP.out _ _ y z _ _ rfl rfl false hS hyN hzN _ PO).mono ?_
        rintro e w9 ⟨rfl, hb⟩
        replace S0 := S0.later hb
        replace PO := PO.later hb
        replace hB := hB.trans (hb.mono hB.size)
        clear hb
        have HS0 := Lib.hid S0
        have HPO := Lib.hid PO
        have HhB := Lib.hid hB
        clear S0 PO hB
        go_wp2_with fail
        have S0 := HS0.out
        have PO := HPO.out
        have hB := HhB.out
        clear HS0 HPO HhB
        go_ret
        exact ⟨rfl, hB⟩
      | true =>
        have hT := HTR.out hP hS
        refine (ahead_at (placesOf s) N HLP.out _ _ y z _ _ rfl rfl true hS hyN hzN _ PO).mono ?_
        rintro e w9 ⟨rfl, hb⟩
        replace S0 := S0.later hb
        replace PO := PO.later hb
        replace hB := hB.trans (hb.mono hB.size)
        clear hb
        have HS0 := Lib.hid S0
        have HPO := Lib.hid PO
        have HhB := Lib.hid hB
        clear S0 PO hB
        go_wp2_with fail
        have S0 := HS0.out
        have PO := HPO.out
        have hB := HhB.out
        clear HS0 HPO HhB
        refine (ahead_at (placesOf s) N HLP.out _ _ x z _ _ rfl rfl true hT hxN hzN _ PO).mono ?_
        rintro e w10 ⟨rfl, hb⟩
        replace S0 := S0.later hb
        replace PO := PO.later hb
        replace hB := hB.trans (hb.mono hB.size)
        clear hb
        have HS0 := Lib.hid S0
        have HPO := Lib.hid PO
        have HhB := Lib.hid hB
        clear S0 PO hB
        go_wp2_with fail
        have S0 := HS0.out
        have PO := HPO.out
        have hB := HhB.out
        clear HS0 HPO HhB
        go_ret
        exact ⟨rfl, hB⟩
    · have hR2 := hcomm.trans hR
      clear hcomm
      have HS0 := Lib.hid S0
      have HPO := Lib.hid PO
      have HhB := Lib.hid hB
      clear S0 PO hB
      go_wp2_with fail
      have S0 := HS0.out
      have PO := HPO.out
      have hB := HhB.out
      clear HS0 HPO HhB
      refine (ahead_at (placesOf s) N HLP.out _ _ x y _ _ rfl rfl false hP hxN hyN _ PO).mono ?_
      rintro e w3 ⟨rfl, hb⟩
      replace S0 := S0.later hb
      replace PO := PO.later hb
      replace hB := hB.trans (hb.mono hB.size)
      clear hb
      have HS0 := Lib.hid S0
      have HPO := Lib.hid PO
      have HhB := Lib.hid hB
      clear S0 PO hB
      go_wp2_with fail
      have S0 := HS0.out
      have PO := HPO.out
      have hB := HhB.out
      clear HS0 HPO HhB
      refine (ahead_at (placesOf s) N HLP.out _ _ y x _ _ rfl rfl true hQ hyN hxN _ PO).mono ?_
      rintro e w4 ⟨rfl, hb⟩
      replace S0 := S0.later hb
      replace PO := PO.later hb
      replace hB := hB.trans (hb.mono hB.size)
      clear hb
      have HS0 := Lib.hid S0
      have HPO := Lib.hid PO
      have HhB := Lib.hid hB
      clear S0 PO hB
      go_wp2_with fail
      have S0 := HS0.out
      have PO := HPO.out
      have hB := HhB.out
      clear HS0 HPO HhB
      refine (par_at (placesOf s) N HLP.out _ _ x y _ _ rfl rfl false hR hxN hyN _ PO).mono ?_
      rintro e w5 ⟨rfl, hb⟩
      replace S0 := S0.later hb
      replace PO := PO.later hb
      replace hB := hB.trans (hb.mono hB.size)
      clear hb
      have HS0 := Lib.hid S0
      have HPO := Lib.hid PO
      have HhB := Lib.hid hB
      clear S0 PO hB
      go_wp2_with fail
      have S0 := HS0.out
      have PO := HPO.out
      have hB := HhB.out
      clear HS0 HPO HhB
      refine (par_at (placesOf s) N HLP.out _ _ x y _ _ rfl rfl false hR hxN hyN _ PO).mono ?_
      rintro e w6 ⟨rfl, hb⟩
      replace S0 := S0.later hb
      replace PO := PO.later hb
      replace hB := hB.trans (hb.mono hB.size)
      clear hb
      have HS0 := Lib.hid S0
      have HPO := Lib.hid PO
      have HhB := Lib.hid hB
      clear S0 PO hB
      go_wp2_with fail
      have S0 := HS0.out
      have PO := HPO.out
      have hB := HhB.out
      clear HS0 HPO HhB
      refine (par_at (placesOf s) N HLP.out _ _ y x _ _ rfl rfl false hR2 hyN hxN _ PO).mono ?_
      rintro e w7 ⟨rfl, hb⟩
      replace S0 := S0.later hb
      replace PO := PO.later hb
      replace hB := hB.trans (hb.mono hB.size)
      clear hb
      have HS0 := Lib.hid S0
      have HPO := Lib.hid PO
      have HhB := Lib.hid hB
      clear S0 PO hB
      go_wp2_with fail
      have S0 := HS0.out
      have PO := HPO.out
      have hB := HhB.out
      clear HS0 HPO HhB
      refine (ahead_at (placesOf s) N HLP.out _ _ x y _ _ rfl rfl false hP hxN hyN _ PO).mono ?_
      rintro e w8 ⟨rfl, hb⟩
      replace S0 := S0.later hb
      replace PO := PO.later hb
      replace hB := hB.trans (hb.mono hB.size)
      clear hb
      have HS0 := Lib.hid S0
      have HPO := Lib.hid PO
      have HhB := Lib.hid hB
      clear S0 PO hB
      go_wp2_with fail
      have S0 := HS0.out
      have PO := HPO.out
      have hB := HhB.out
      clear HS0 HPO HhB
      go_ret
      exact ⟨rfl, hB⟩
    · have hR2 := hcomm.trans hR
      clear hcomm
      have HS0 := Lib.hid S0
      have HPO := Lib.hid PO
      have HhB := Lib.hid hB
      clear S0 PO hB
      go_wp2_with fail
      have S0 := HS0.out
      have PO := HPO.out
      have hB := HhB.out
      clear HS0 HPO HhB
      refine (ahead_at (placesOf s) N HLP.out _ _ x y _ _ rfl rfl false hP hxN hyN _ PO).mono ?_
      rintro e w3 ⟨rfl, hb⟩
      replace S0 := S0.later hb
      replace PO := PO.later hb
      replace hB := hB.trans (hb.mono hB.size)
      clear hb
      have HS0 := Lib.hid S0
      have HPO := Lib.hid PO
      have HhB := Lib.hid hB
      clear S0 PO hB
      go_wp2_with fail
      have S0 := HS0.out
      have PO := HPO.out
      have hB := HhB.out
      clear HS0 HPO HhB
      refine (ahead_at (placesOf s) N HLP.out _ _ y x _ _ rfl rfl false hQ hyN hxN _ PO).mono ?_
      rintro e w4 ⟨rfl, hb⟩
      replace S0 := S0.later hb
      replace PO := PO.later hb
      replace hB := hB.trans (hb.mono hB.size)
      clear hb
      have HS0 := Lib.hid S0
      have HPO := Lib.hid PO
      have HhB := Lib.hid hB
      clear S0 PO hB
      go_wp2_with fail
      have S0 := HS0.out
      have PO := HPO.out
      have hB := HhB.out
      clear HS0 HPO HhB
      refine (par_at (placesOf s) N HLP.out _ _ x y _ _ rfl rfl true hR hxN hyN _ PO).mono ?_
      rintro e w5 ⟨rfl, hb⟩
      replace S0 := S0.later hb
      replace PO := PO.later hb
      replace hB := hB.trans (hb.mono hB.size)
      clear hb
      have HS0 := Lib.hid S0
      have HPO := Lib.hid PO
      have HhB := Lib.hid hB
      clear S0 PO hB
      go_wp2_with fail
      have S0 := HS0.out
      have PO := HPO.out
      have hB := HhB.out
      clear HS0 HPO HhB
      refine (par_at (placesOf s) N HLP.out _ _ x y _ _ rfl rfl true hR hxN hyN _ PO).mono ?_
      rintro e w6 ⟨rfl, hb⟩
      replace S0 := S0.later hb
      replace PO := PO.later hb
      replace hB := hB.trans (hb.mono hB.size)
      clear hb
      have HS0 := Lib.hid S0
      have HPO := Lib.hid PO
      have HhB := Lib.hid hB
      clear S0 PO hB
      go_wp2_with fail
      have S0 := HS0.out
      have PO := HPO.out
      have hB := HhB.out
      clear HS0 HPO HhB
      refine (par_at (placesOf s) N HLP.out _ _ y x _ _ rfl rfl true hR2 hyN hxN _ PO).mono ?_
      rintro e w7 ⟨rfl, hb⟩
      replace S0 := S0.later hb
      replace PO := PO.later hb
      replace hB := hB.trans (hb.mono hB.size)
      clear hb
      have HS0 := Lib.hid S0
      have HPO := Lib.hid PO
      have HhB := Lib.hid hB
      clear S0 PO hB
      go_wp2_with fail
      have S0 := HS0.out
      have PO := HPO.out
      have hB := HhB.out
      clear HS0 HPO HhB
      refine (ahead_at (placesOf s) N HLP.out _ _ x y _ _ rfl rfl false hP hxN hyN _ PO).mono ?_
      rintro e w8 ⟨rfl, hb⟩
      replace S0 := S0.later hb
      replace PO := PO.later hb
      replace hB := hB.trans (hb.mono hB.size)
      clear hb
      have HS0 := Lib.hid S0
      have HPO := Lib.hid PO
      have HhB := Lib.hid hB
      clear S0 PO hB
      go_wp2_with fail
      have S0 := HS0.out
      have PO := HPO.out
      have hB := HhB.out
      clear HS0 HPO HhB
      go_ret
      exact ⟨rfl, hB⟩
end Go.Proofs.Ytjpimaiogdckpaa
