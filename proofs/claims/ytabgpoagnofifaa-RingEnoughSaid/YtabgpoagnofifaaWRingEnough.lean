/-
  RING: the law RingEnough.
-/
import Derived.Test.YtabgpoagnofifaaRows
import Derived.ProofKit
import Derived.LoopTactic
import Derived.Test.YtabgpoagnofifaaLayG
import Derived.Test.YtabgpoagnofifaaWRingRound
namespace Go.Proofs.Ytabgpoagnofifaa
open Go.ChangeShapes Go.WideShapes Go.ChangeAt Go.RowKit

theorem enough_at (t r : Int) (ht : 1 ≤ t ∧ t ≤ 64) (h0 : 0 ≤ r) (h1 : r < ringsP t) : decide (t ≤ sizeP r) = (r == ringsP t - 1) := by
  have h5 := rings_le t
  rw [Bool.eq_iff_iff, beq_iff_eq, decide_eq_true_iff]
  rcases (show r = 0 ∨ r = 1 ∨ r = 2 ∨ r = 3 ∨ r = 4 by omega) with rfl | rfl | rfl | rfl | rfl
  · rw [show sizeP 0 = 4 from rfl]; unfold ringsP at *; repeat' split
    all_goals omega
  · rw [show sizeP 1 = 8 from rfl]; unfold ringsP at *; repeat' split
    all_goals omega
  · rw [show sizeP 2 = 16 from rfl]; unfold ringsP at *; repeat' split
    all_goals omega
  · rw [show sizeP 3 = 32 from rfl]; unfold ringsP at *; repeat' split
    all_goals omega
  · rw [show sizeP 4 = 64 from rfl]; unfold ringsP at *; repeat' split
    all_goals omega

theorem twice_at (r : Int) (h0 : 1 ≤ r) (h1 : r ≤ 4) : sizeP r = 2 * sizeP (r - 1) := by
  rcases (show r = 1 ∨ r = 2 ∨ r = 3 ∨ r = 4 by omega) with rfl | rfl | rfl | rfl <;> decide

set_option maxHeartbeats 4000000 in
theorem walkRingEnough (a b : Int) (w : World) (ha : 0 ≤ a ∧ a ≤ 255) (hb : 0 ≤ b ∧ b ≤ 255) :
    Calls Try.prog 7 #[.int .u8 a, .int .u8 b] w fun e w' => e = .returned (.bool true) ∧ Below w.heap.size w w' := by
  obtain ⟨m, hm⟩ : ∃ m, Int.tmod a 3 = m := ⟨_, rfl⟩
  obtain ⟨k, hk⟩ : ∃ m, Int.tmod b 64 = m := ⟨_, rfl⟩
  have h1 : 0 ≤ m ∧ m ≤ 2 := by rw [Int.tmod_eq_emod_of_nonneg ha.1] at hm; omega
  have h2 : 0 ≤ k ∧ k ≤ 63 := by rw [Int.tmod_eq_emod_of_nonneg hb.1] at hk; omega
  obtain ⟨X, hX⟩ : ∃ X, X = lay2 (1 + m) (1 + k) := ⟨_, rfl⟩
  have hWh := fun w => where_any a b m k hm hk h1 h2 w
  rw [← hX] at hWh
  have x25 : X.size = 25 := by rw [hX]; rfl
  have x0 : X[0]? = some (.int .i64 (1 + m)) := by rw [hX]; rfl
  have x4 : X[4]? = some (.int .i64 (1 + k)) := by rw [hX]; rfl
  have x17 : X[17]? = some (.int .i64 (4 + 8 * (1 + m))) := by rw [hX]; rfl
  have hOn : Hid (X.all (·.oneCell') = true) := Lib.hid (by rw [hX]; simp [lay2, layC, Value.oneCell'])
  have hi1 : Hid ((Try.prog.info? 26).map (·.size) = some X.size) := Lib.hid (by rw [x25]; exact lay25)
  have hi2 : Hid ((Try.prog.info? 26).map (·.size) = some X.toList.length) := Lib.hid (by rw [Array.length_toList, x25]; exact lay25)
  have hPL := fun r w => place_lay X (1 + m) (1 + k) (4 + 8 * (1 + m)) 0 r 0 x25 x0 x4 x17 (by omega) (by omega) w
  have hRG := fun w => rings_lay X (1 + k) x4 w
  have hrl := rings_le (1 + k)
  have hen := enough_at (1 + k)
  obtain ⟨R, hR⟩ : ∃ R, ringsP (1 + k) = R := ⟨_, rfl⟩
  have hin : ∀ r, 0 ≤ r → r < R → 0 ≤ placeP (ringP (1 + m) (1 + k) (4 + 8 * (1 + m)) 0 r) (sizeP r) 0 := fun r h0 h5 => by
    have hri := ring_in (1 + m) (1 + k) (4 + 8 * (1 + m)) 0 r (by omega) ⟨by omega, by omega⟩ ⟨h0, by omega⟩
    have hz := size_five r h0 (by omega)
    unfold placeP
    rw [if_neg (by omega)]
    have := Int.emod_nonneg 0 (show sizeP r ≠ 0 by omega)
    omega
  have hout : placeP (ringP (1 + m) (1 + k) (4 + 8 * (1 + m)) 0 R) (sizeP R) 0 = -1 := by
    unfold placeP
    rw [if_pos (.inl (by unfold ringP; rw [if_pos (.inr (by omega))]; omega))]
  have hPO := hPL R
  rw [hout] at hPO
  rw [hR] at hRG hrl hen
  have HWh := Lib.hid hWh
  have HRG := Lib.hid hRG
  have HX25 := Lib.hid x25
  have HPL := Lib.hid hPL
  have HPO := Lib.hid hPO
  have HIN := Lib.hid hin
  have HEN := Lib.hid hen
  clear hX hWh hRG x25 x0 x4 x17 hR hPL hPO hin hen hout
  go_enter Try.func7, Try.ntmps7
  go_wp2_with fail
  refine (awake_any w).mono ?_
  rintro e w0 ⟨rfl, hb0⟩
  go_wp2_with fail
  refine (HWh.out w0).mono ?_
  rintro e w1 ⟨rfl, hb01⟩
  have hb1 := below_trans hb0 hb01
  obtain ⟨W, hW⟩ : ∃ W, W = (w1.alloc (Obj.cells #[.int .i64 0, .int .i64 0, .int .i64 0, .int .i64 0, .int .i64 0, .int .i64 0, .int .i64 0, .int .i64 0, .int .i64 0, .int .i64 0, .int .i64 0, .int .i64 0, .int .i64 0, .int .i64 0, .int .i64 0, .int .i64 0, .int .i64 0, .int .i64 0, .int .i64 0, .int .i64 0, .int .i64 0, .int .i64 0, .int .i64 0, .int .i64 0, .int .i64 0] 26)).setCells w1.heap.size 0 X.toList := ⟨_, rfl⟩
  have HN := Blk.made w1 26 #[.int .i64 0, .int .i64 0, .int .i64 0, .int .i64 0, .int .i64 0, .int .i64 0, .int .i64 0, .int .i64 0, .int .i64 0, .int .i64 0, .int .i64 0, .int .i64 0, .int .i64 0, .int .i64 0, .int .i64 0, .int .i64 0, .int .i64 0, .int .i64 0, .int .i64 0, .int .i64 0, .int .i64 0, .int .i64 0, .int .i64 0, .int .i64 0, .int .i64 0]
  have HA : Blk W w1.heap.size 26 X := by rw [hW]; exact HN.put_whole X.toList (by rw [Array.length_toList, HX25.out]; rfl)
  have hbW : Below w.heap.size w W := by rw [hW]; exact (hb1.alloc hb1.size _).trans (Lib.below_setCells_w hb1.size _ _ _)
  have hth1 : Hid ((w1.alloc (Obj.cells #[.int .i64 0, .int .i64 0, .int .i64 0, .int .i64 0, .int .i64 0, .int .i64 0, .int .i64 0, .int .i64 0, .int .i64 0, .int .i64 0, .int .i64 0, .int .i64 0, .int .i64 0, .int .i64 0, .int .i64 0, .int .i64 0, .int .i64 0, .int .i64 0, .int .i64 0, .int .i64 0, .int .i64 0, .int .i64 0, .int .i64 0, .int .i64 0, .int .i64 0] 26)).there w1.heap.size 0 X.size) := Lib.hid fun j hj => by
    rw [Nat.zero_add]
    obtain ⟨u, hu⟩ := HN.has j (by rw [HX25.out] at hj; exact hj)
    exact ⟨by rw [hu]; rfl, HN.free j⟩
  have hra : Hid (∀ wx, Below W.heap.size W wx → World.rangeAt wx w1.heap.size 0 X.toList) := Lib.hid fun wx hx j v hv => by
    rw [Nat.zero_add, (HA.later hx).cell]; simpa using hv
  have HW := Lib.hid hW
  have HBW := Lib.hid hbW
  clear hW hbW HN HA
  go_wp2_with (first
    | (with_reducible (show wpList _ _ _ ({ dst := _, op := Op.load 26 _, type := _, pos := _, after := _, guard := none } :: _) _ _); refine wpList_load_mid rfl 26 _ rfl w1.heap.size 0 rfl X.toList _ (hra.out _ (Below.refl _ _)) layFields rfl hi2.out ?_)
    | (with_reducible (show wpList _ _ _ ({ dst := none, op := Op.store 26 _ _, type := _, pos := _, after := _, guard := none } :: _) _ _); refine wpList_store_mid rfl 26 _ _ rfl w1.heap.size 0 X rfl rfl hth1.out hi1.out hOn.out ?_; rw [← HW.out]))
  refine (HRG.out _).mono ?_
  rintro e w2 ⟨rfl, hb2⟩
  go_wp2_with fail
  go_loopw [9] (fun x wr => ∃ r : Int, x = .int .i64 r ∧ 0 ≤ r ∧ r ≤ R ∧ Below W.heap.size W wr) (fun x _ => 5 - (intOf x).toNat)
  case atStart => exact ⟨0, rfl, by omega, by omega, hb2⟩
  case round =>
    obtain ⟨r, rfl, hr0, hrR, hbr⟩ := hrel
    rename_i wr
    by_cases hlt : r < R
    · obtain ⟨E, hE⟩ : ∃ E, (r == R - 1) = E := ⟨_, rfl⟩
      have q1 := HEN.out r (by omega) hr0 hlt
      rw [hE] at q1
      have hPr := HPL.out r
      have hp0 := HIN.out r hr0 hlt
      obtain ⟨p, hp⟩ : ∃ p, placeP (ringP (1 + m) (1 + k) (4 + 8 * (1 + m)) 0 r) (sizeP r) 0 = p := ⟨_, rfl⟩
      rw [hp] at hPr hp0
      have hsz := fun w => size_any r w
      have htw := twice_at r
      have hsl := size_le (r - 1)
      obtain ⟨z, hz⟩ : ∃ z, sizeP r = z := ⟨_, rfl⟩
      rw [hz] at hsz q1 htw
      have HPR := Lib.hid hPr
      have HSZ := Lib.hid hsz
      clear hp hz hPr hsz
      by_cases hr1 : r = 0
      · subst hr1
        clear htw hsl
        go_wp2_with fail
        refine (HSZ.out _).mono ?_
        rintro e w3 ⟨rfl, rfl⟩
        go_wp2_with (first | (with_reducible (show wpList _ _ _ ({ dst := _, op := Op.load 26 _, type := _, pos := _, after := _, guard := none } :: _) _ _); refine wpList_load_mid rfl 26 _ rfl w1.heap.size 0 rfl X.toList _ (hra.out _ hbr) layFields rfl hi2.out ?_) | (with_reducible (show wpList _ _ _ ({ dst := _, op := Op.load 26 _, type := _, pos := _, after := _, guard := some _ } :: _) _ _); refine wpList_load_mid_g rfl 26 _ rfl w1.heap.size 0 rfl X.toList _ (hra.out _ hbr) layFields rfl hi2.out ?_))
        refine (HPR.out _).mono ?_
        rintro e w4 ⟨rfl, hb4⟩
        go_wp2_with fail
        go_roundw
        case rel => exact ⟨1, rfl, by omega, by omega, hbr.trans (hb4.mono hbr.size)⟩
        case measure => simp [intOf]
      · have hrp : 0 < r := by omega
        have htw2 := htw (by omega) (by omega)
        obtain ⟨y, hy⟩ : ∃ y, sizeP (r - 1) = y := ⟨_, rfl⟩
        have hs1 := fun w => size_any (r - 1) w
        rw [hy] at hs1 hsl htw2
        have n1 : (z == 2 * y) = true := by simp; omega
        have n2 : (z != 2 * y) = false := by simp; omega
        have HS1 := Lib.hid hs1
        clear hs1 hy htw2 htw hr1
        go_wp2_with fail
        refine (HSZ.out _).mono ?_
        rintro e w3 ⟨rfl, rfl⟩
        go_wp2_with fail
        refine (HSZ.out _).mono ?_
        rintro e w3 ⟨rfl, rfl⟩
        go_wp2_with fail
        refine (HS1.out _).mono ?_
        rintro e w3 ⟨rfl, rfl⟩
        go_wp2_with (first | (with_reducible (show wpList _ _ _ ({ dst := _, op := Op.load 26 _, type := _, pos := _, after := _, guard := none } :: _) _ _); refine wpList_load_mid rfl 26 _ rfl w1.heap.size 0 rfl X.toList _ (hra.out _ hbr) layFields rfl hi2.out ?_) | (with_reducible (show wpList _ _ _ ({ dst := _, op := Op.load 26 _, type := _, pos := _, after := _, guard := some _ } :: _) _ _); refine wpList_load_mid_g rfl 26 _ rfl w1.heap.size 0 rfl X.toList _ (hra.out _ hbr) layFields rfl hi2.out ?_))
        refine (HPR.out _).mono ?_
        rintro e w4 ⟨rfl, hb4⟩
        go_wp2_with fail
        go_roundw
        case rel => exact ⟨r + 1, rfl, by omega, by omega, hbr.trans (hb4.mono hbr.size)⟩
        case measure => simp [intOf]; omega
    · have hrR2 : R ≤ r := by omega
      have l1 : (1 : Int) ≤ R := hrl.1
      have l5 : R ≤ 5 := hrl.2
      clear hrR
      go_wp2_with (first | (with_reducible (show wpList _ _ _ ({ dst := _, op := Op.load 26 _, type := _, pos := _, after := _, guard := none } :: _) _ _); refine wpList_load_mid rfl 26 _ rfl w1.heap.size 0 rfl X.toList _ (hra.out _ hbr) layFields rfl hi2.out ?_) | (with_reducible (show wpList _ _ _ ({ dst := _, op := Op.load 26 _, type := _, pos := _, after := _, guard := some _ } :: _) _ _); refine wpList_load_mid_g rfl 26 _ rfl w1.heap.size 0 rfl X.toList _ (hra.out _ hbr) layFields rfl hi2.out ?_))
      refine (HPO.out _).mono ?_
      rintro e w4 ⟨rfl, hb4⟩
      go_wp2_with fail
      go_ret
      exact ⟨rfl, HBW.out.trans ((hbr.trans (hb4.mono hbr.size)).mono HBW.out.size)⟩
end Go.Proofs.Ytabgpoagnofifaa
