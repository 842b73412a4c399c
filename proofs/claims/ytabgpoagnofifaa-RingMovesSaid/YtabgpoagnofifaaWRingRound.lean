/-
  RING: the law RingRound.
-/
import Derived.Test.YtabgpoagnofifaaRows
import Derived.ProofKit
import Derived.Test.YtabgpoagnofifaaLayG
namespace Go.Proofs.Ytabgpoagnofifaa
open Go.ChangeShapes Go.WideShapes Go.ChangeAt Go.RowKit

theorem round_at (z i m : Int) (hz : z = 4 ∨ z = 8 ∨ z = 16 ∨ z = 32 ∨ z = 64) (b : Int) : ((b + i % z == b + (i + m) % z) = (m % z == 0)) := by
  rw [Bool.eq_iff_iff, beq_iff_eq, beq_iff_eq]
  rcases hz with rfl | rfl | rfl | rfl | rfl <;> omega

theorem size_five (k : Int) (h0 : 0 ≤ k) (h4 : k ≤ 4) : sizeP k = 4 ∨ sizeP k = 8 ∨ sizeP k = 16 ∨ sizeP k = 32 ∨ sizeP k = 64 := by
  rcases (show k = 0 ∨ k = 1 ∨ k = 2 ∨ k = 3 ∨ k = 4 by omega) with rfl | rfl | rfl | rfl | rfl <;> decide

theorem ring_in (s t g seat r : Int) (hg : 0 ≤ g) (hseat : 0 ≤ seat ∧ seat < s) (hr : 0 ≤ r ∧ r < ringsP t) : 0 ≤ ringP s t g seat r := by
  have h5 := rings_le t
  have hc : 0 ≤ cellsP r ∧ cellsP r < cellsP (ringsP t) := by
    refine ⟨(cells_le r hr.1).1, ?_⟩
    rcases (show ringsP t = 1 ∨ ringsP t = 2 ∨ ringsP t = 3 ∨ ringsP t = 4 ∨ ringsP t = 5 by omega) with h | h | h | h | h <;> rw [h] at hr ⊢ <;> rcases (show r = 0 ∨ r = 1 ∨ r = 2 ∨ r = 3 ∨ r = 4 by omega) with rfl | rfl | rfl | rfl | rfl <;> first | decide | omega
  unfold ringP
  rw [if_neg (by omega)]
  unfold atP
  rw [if_neg (by omega)]
  have := Int.mul_nonneg hseat.1 (show 0 ≤ cellsP (ringsP t) by omega)
  omega

set_option maxHeartbeats 4000000 in
theorem walkRingRound (a b c d i v : Int) (w : World) (ha : 0 ≤ a ∧ a ≤ 255) (hb : 0 ≤ b ∧ b ≤ 255) (hc : 0 ≤ c ∧ c ≤ 255) (hd : 0 ≤ d ∧ d ≤ 255) (hi : 0 ≤ i ∧ i ≤ 4294967295) (hv : 0 ≤ v ∧ v ≤ 255) :
    Calls Try.prog 4 #[.int .u8 a, .int .u8 b, .int .u8 c, .int .u8 d, .int .u32 i, .int .u8 v] w fun e w' => e = .returned (.bool true) ∧ Below w.heap.size w w' := by
  obtain ⟨m, hm⟩ : ∃ m, Int.tmod a 3 = m := ⟨_, rfl⟩
  obtain ⟨k, hk⟩ : ∃ m, Int.tmod b 64 = m := ⟨_, rfl⟩
  obtain ⟨r, hr⟩ : ∃ m, Int.tmod d 8 = m := ⟨_, rfl⟩
  obtain ⟨q, hq⟩ : ∃ q, Int.tmod c (1 + m) = q := ⟨_, rfl⟩
  have h1 : 0 ≤ m ∧ m ≤ 2 := by rw [Int.tmod_eq_emod_of_nonneg ha.1] at hm; omega
  have h2 : 0 ≤ k ∧ k ≤ 63 := by rw [Int.tmod_eq_emod_of_nonneg hb.1] at hk; omega
  have h3 : 0 ≤ r ∧ r ≤ 7 := by rw [Int.tmod_eq_emod_of_nonneg hd.1] at hr; omega
  have h4 : 0 ≤ q ∧ q < 1 + m := by
    rw [Int.tmod_eq_emod_of_nonneg hc.1] at hq
    rw [← hq]; exact ⟨Int.emod_nonneg _ (by omega), Int.emod_lt_of_pos _ (by omega)⟩
  have hne : 1 + m ≠ 0 := by omega
  obtain ⟨X, hX⟩ : ∃ X, X = lay2 (1 + m) (1 + k) := ⟨_, rfl⟩
  have hWh := fun w => where_any a b m k hm hk h1 h2 w
  rw [← hX] at hWh
  have x25 : X.size = 25 := by rw [hX]; rfl
  have x0 : X[0]? = some (.int .i64 (1 + m)) := by rw [hX]; rfl
  have x4 : X[4]? = some (.int .i64 (1 + k)) := by rw [hX]; rfl
  have x17 : X[17]? = some (.int .i64 (4 + 8 * (1 + m))) := by rw [hX]; rfl
  have hOn : Hid (X.all (·.oneCell') = true) := Lib.hid (by rw [hX]; simp [lay2, layC, Value.oneCell'])
  have hi1 : Hid ((Try.prog.info? 26).map (·.size) = some X.size) := Lib.hid (by rw [x25]; exact lay25)
  have hi2 : Hid ((Try.prog.info? 26).map (·.size) = some X.toList.length) := Lib.hid (by rw [Array.length_toList, x25]; exact lay25)
  have hPA := fun w => place_lay X (1 + m) (1 + k) (4 + 8 * (1 + m)) q r i x25 x0 x4 x17 (by omega) (by omega) w
  have hPB := fun w => place_lay X (1 + m) (1 + k) (4 + 8 * (1 + m)) q r (i + v) x25 x0 x4 x17 (by omega) (by omega) w
  have hRG := fun w => rings_lay X (1 + k) x4 w
  have hSZ := fun w => size_any r w
  have hrl := rings_le (1 + k)
  have hri := ring_in (1 + m) (1 + k) (4 + 8 * (1 + m)) q r (by omega) h4
  have hsf := size_five r h3.1
  have hrn : ringsP (1 + k) ≤ r → ringP (1 + m) (1 + k) (4 + 8 * (1 + m)) q r = -1 := fun h => by unfold ringP; rw [if_pos (.inr h)]
  obtain ⟨R, hR⟩ : ∃ R, ringsP (1 + k) = R := ⟨_, rfl⟩
  obtain ⟨g, hg⟩ : ∃ g, ringP (1 + m) (1 + k) (4 + 8 * (1 + m)) q r = g := ⟨_, rfl⟩
  obtain ⟨z, hz⟩ : ∃ z, sizeP r = z := ⟨_, rfl⟩
  rw [hR] at hRG hrl hri hrn
  rw [hg] at hPA hPB hri hrn
  rw [hz] at hPA hPB hSZ hsf
  have HWh := Lib.hid hWh
  have HRG := Lib.hid hRG
  have HSZ := Lib.hid hSZ
  have HX25 := Lib.hid x25
  clear hX hWh hRG hSZ x25 x0 x4 x17 hR hg hz
  by_cases hc : R ≤ r
  · have e1 : placeP g z i = -1 := by unfold placeP; rw [if_pos (.inl (by rw [hrn hc]; omega))]
    have e2 : placeP g z (i + v) = -1 := by unfold placeP; rw [if_pos (.inl (by rw [hrn hc]; omega))]
    rw [e1] at hPA
    rw [e2] at hPB
    have HPA := Lib.hid hPA
    have HPB := Lib.hid hPB
    clear hPA hPB e1 e2 hri hrn hsf
    go_enter Try.func4, Try.ntmps4
    go_wp2_with fail
    refine (awake_any w).mono ?_
    rintro e w0 ⟨rfl, hb0⟩
    go_wp2_with fail
    refine (HWh.out w0).mono ?_
    rintro e w1 ⟨rfl, hb01⟩
    have hb1 := below_trans hb0 hb01
    obtain ⟨W, hW⟩ : ∃ W, W = (w1.alloc (Obj.cells #[.int .i64 0, .int .i64 0, .int .i64 0, .int .i64 0, .int .i64 0, .int .i64 0, .int .i64 0, .int .i64 0, .int .i64 0, .int .i64 0, .int .i64 0, .int .i64 0, .int .i64 0, .int .i64 0, .int .i64 0, .int .i64 0, .int .i64 0, .int .i64 0, .int .i64 0, .int .i64 0, .int .i64 0, .int .i64 0, .int .i64 0, .int .i64 0, .int .i64 0] 26)).setCells w1.heap.size 0 X.toList := ⟨_, rfl⟩
    have HN := Blk.made w1 26 #[.int .i64 0, .int .i64 0, .int .i64 0, .int .i64 0, .int .i64 0, .int .i64 0, .int .i64 0, .int .i64 0, .int .i64 0, .int .i64 0, .int .i64 0, .int .i64 0, .int .i64 0, .int .i64 0, .int .i64 0, .int .i64 0, .int .i64 0, .int .i64 0, .int .i64 0, .int .i64 0, .int .i64 0, .int .i64 0, .int .i64 0, .int .i64 0, .int .i64 0]
    have HA : Blk W w1.heap.size 26 X := by rw [hW]; exact HN.put_whole X.toList (by rw [Array.length_toList, HX25.out]; rfl)
    have hbW : Below w.heap.size w W := by rw [hW]; exact (hb1.alloc hb1.size _).trans (Lib.below_setCells_w hb1.size _ _ _)
    have hth1 : Hid ((w1.alloc (Obj.cells #[.int .i64 0, .int .i64 0, .int .i64 0, .int .i64 0, .int .i64 0, .int .i64 0, .int .i64 0, .int .i64 0, .int .i64 0, .int .i64 0, .int .i64 0, .int .i64 0, .int .i64 0, .int .i64 0, .int .i64 0, .int .i64 0, .int .i64 0, .int .i64 0, .int .i64 0, .int .i64 0, .int .i64 0, .int .i64 0, .int .i64 0, .int .i64 0, .int .i64 0] 26)).there w1.heap.size 0 X.size) := Lib.hid fun j hj => by
      rw [Nat.zero_add]
      obtain ⟨u, hu⟩ := HN.has j (by rw [HX25.out] at hj; exact hj)
      exact ⟨by rw [hu]; rfl, HN.free j⟩
    have hra : Hid (∀ wx, Below W.heap.size W wx → World.rangeAt wx w1.heap.size 0 X.toList) := Lib.hid fun wx hx j v hv => by
      rw [Nat.zero_add, (HA.later hx).cell]; simpa using hv
    have HW := Lib.hid hW
    have HBW := Lib.hid hbW
    clear hW hbW HN HA
    go_wp2_with (first
      | (with_reducible (show wpList _ _ _ ({ dst := _, op := Op.load 26 _, type := _, pos := _, after := _, guard := none } :: _) _ _); refine wpList_load_mid rfl 26 _ rfl w1.heap.size 0 rfl X.toList _ (hra.out _ (Below.refl _ _)) layFields rfl hi2.out ?_)
      | (with_reducible (show wpList _ _ _ ({ dst := none, op := Op.store 26 _ _, type := _, pos := _, after := _, guard := none } :: _) _ _); refine wpList_store_mid rfl 26 _ _ rfl w1.heap.size 0 X rfl rfl hth1.out hi1.out hOn.out ?_; rw [← HW.out]))
    refine (HPA.out _).mono ?_
    rintro e w2 ⟨rfl, hb2⟩
    go_wp2_with (first | (with_reducible (show wpList _ _ _ ({ dst := _, op := Op.load 26 _, type := _, pos := _, after := _, guard := none } :: _) _ _); refine wpList_load_mid rfl 26 _ rfl w1.heap.size 0 rfl X.toList _ (hra.out _ hb2) layFields rfl hi2.out ?_) | (with_reducible (show wpList _ _ _ ({ dst := _, op := Op.load 26 _, type := _, pos := _, after := _, guard := some _ } :: _) _ _); refine wpList_load_mid_g rfl 26 _ rfl w1.heap.size 0 rfl X.toList _ (hra.out _ hb2) layFields rfl hi2.out ?_))
    refine (HPB.out _).mono ?_
    rintro e w3 ⟨rfl, hb3⟩
    have B3 := below_trans hb2 hb3
    go_wp2_with fail
    refine (HSZ.out _).mono ?_
    rintro e w3 ⟨rfl, rfl⟩
    go_wp2_with (first | (with_reducible (show wpList _ _ _ ({ dst := _, op := Op.load 26 _, type := _, pos := _, after := _, guard := none } :: _) _ _); refine wpList_load_mid rfl 26 _ rfl w1.heap.size 0 rfl X.toList _ (hra.out _ B3) layFields rfl hi2.out ?_) | (with_reducible (show wpList _ _ _ ({ dst := _, op := Op.load 26 _, type := _, pos := _, after := _, guard := some _ } :: _) _ _); refine wpList_load_mid_g rfl 26 _ rfl w1.heap.size 0 rfl X.toList _ (hra.out _ B3) layFields rfl hi2.out ?_))
    refine (HRG.out _).mono ?_
    rintro e w4 ⟨rfl, hb4⟩
    have B4 := below_trans B3 hb4
    go_wp2_with fail
    go_ret
    exact ⟨rfl, HBW.out.trans (B4.mono HBW.out.size)⟩
  · have hg0 : 0 ≤ g := hri ⟨h3.1, by omega⟩
    have hz5 := hsf (by omega)
    have hz4 : 4 ≤ z ∧ z ≤ 64 := by omega
    have hz0 : z ≠ 0 := by omega
    obtain ⟨E, hE⟩ : ∃ E, (v % z == 0) = E := ⟨_, rfl⟩
    have e3 := round_at z i v hz5 g
    rw [hE] at e3
    have e1 : placeP g z i = g + i % z := by unfold placeP; rw [if_neg (by omega)]
    have e2 : placeP g z (i + v) = g + (i + v) % z := by unfold placeP; rw [if_neg (by omega)]
    have e4 : 0 ≤ i % z := Int.emod_nonneg _ hz0
    obtain ⟨p1, hp1⟩ : ∃ p, g + i % z = p := ⟨_, rfl⟩
    obtain ⟨p2, hp2⟩ : ∃ p, g + (i + v) % z = p := ⟨_, rfl⟩
    have hp0 : 0 ≤ p1 := by omega
    rw [e1, hp1] at hPA
    rw [e2, hp2] at hPB
    rw [hp1, hp2] at e3
    obtain ⟨u, hu⟩ : ∃ u, Int.tmod v z = u := ⟨_, rfl⟩
    have hu0 : (u == 0) = E := by rw [← hE, ← hu, Int.tmod_eq_emod_of_nonneg hv.1]
    have HPA := Lib.hid hPA
    have HPB := Lib.hid hPB
    clear hPA hPB e1 e2 hri hrn hsf hE hp1 hp2 e4 hz5
    go_enter Try.func4, Try.ntmps4
    go_wp2_with fail
    refine (awake_any w).mono ?_
    rintro e w0 ⟨rfl, hb0⟩
    go_wp2_with fail
    refine (HWh.out w0).mono ?_
    rintro e w1 ⟨rfl, hb01⟩
    have hb1 := below_trans hb0 hb01
    obtain ⟨W, hW⟩ : ∃ W, W = (w1.alloc (Obj.cells #[.int .i64 0, .int .i64 0, .int .i64 0, .int .i64 0, .int .i64 0, .int .i64 0, .int .i64 0, .int .i64 0, .int .i64 0, .int .i64 0, .int .i64 0, .int .i64 0, .int .i64 0, .int .i64 0, .int .i64 0, .int .i64 0, .int .i64 0, .int .i64 0, .int .i64 0, .int .i64 0, .int .i64 0, .int .i64 0, .int .i64 0, .int .i64 0, .int .i64 0] 26)).setCells w1.heap.size 0 X.toList := ⟨_, rfl⟩
    have HN := Blk.made w1 26 #[.int .i64 0, .int .i64 0, .int .i64 0, .int .i64 0, .int .i64 0, .int .i64 0, .int .i64 0, .int .i64 0, .int .i64 0, .int .i64 0, .int .i64 0, .int .i64 0, .int .i64 0, .int .i64 0, .int .i64 0, .int .i64 0, .int .i64 0, .int .i64 0, .int .i64 0, .int .i64 0, .int .i64 0, .int .i64 0, .int .i64 0, .int .i64 0, .int .i64 0]
    have HA : Blk W w1.heap.size 26 X := by rw [hW]; exact HN.put_whole X.toList (by rw [Array.length_toList, HX25.out]; rfl)
    have hbW : Below w.heap.size w W := by rw [hW]; exact (hb1.alloc hb1.size _).trans (Lib.below_setCells_w hb1.size _ _ _)
    have hth1 : Hid ((w1.alloc (Obj.cells #[.int .i64 0, .int .i64 0, .int .i64 0, .int .i64 0, .int .i64 0, .int .i64 0, .int .i64 0, .int .i64 0, .int .i64 0, .int .i64 0, .int .i64 0, .int .i64 0, .int .i64 0, .int .i64 0, .int .i64 0, .int .i64 0, .int .i64 0, .int .i64 0, .int .i64 0, .int .i64 0, .int .i64 0, .int .i64 0, .int .i64 0, .int .i64 0, .int .i64 0] 26)).there w1.heap.size 0 X.size) := Lib.hid fun j hj => by
      rw [Nat.zero_add]
      obtain ⟨u, hu⟩ := HN.has j (by rw [HX25.out] at hj; exact hj)
      exact ⟨by rw [hu]; rfl, HN.free j⟩
    have hra : Hid (∀ wx, Below W.heap.size W wx → World.rangeAt wx w1.heap.size 0 X.toList) := Lib.hid fun wx hx j v hv => by
      rw [Nat.zero_add, (HA.later hx).cell]; simpa using hv
    have HW := Lib.hid hW
    have HBW := Lib.hid hbW
    clear hW hbW HN HA
    go_wp2_with (first
      | (with_reducible (show wpList _ _ _ ({ dst := _, op := Op.load 26 _, type := _, pos := _, after := _, guard := none } :: _) _ _); refine wpList_load_mid rfl 26 _ rfl w1.heap.size 0 rfl X.toList _ (hra.out _ (Below.refl _ _)) layFields rfl hi2.out ?_)
      | (with_reducible (show wpList _ _ _ ({ dst := none, op := Op.store 26 _ _, type := _, pos := _, after := _, guard := none } :: _) _ _); refine wpList_store_mid rfl 26 _ _ rfl w1.heap.size 0 X rfl rfl hth1.out hi1.out hOn.out ?_; rw [← HW.out]))
    refine (HPA.out _).mono ?_
    rintro e w2 ⟨rfl, hb2⟩
    go_wp2_with (first | (with_reducible (show wpList _ _ _ ({ dst := _, op := Op.load 26 _, type := _, pos := _, after := _, guard := none } :: _) _ _); refine wpList_load_mid rfl 26 _ rfl w1.heap.size 0 rfl X.toList _ (hra.out _ hb2) layFields rfl hi2.out ?_) | (with_reducible (show wpList _ _ _ ({ dst := _, op := Op.load 26 _, type := _, pos := _, after := _, guard := some _ } :: _) _ _); refine wpList_load_mid_g rfl 26 _ rfl w1.heap.size 0 rfl X.toList _ (hra.out _ hb2) layFields rfl hi2.out ?_))
    refine (HPB.out _).mono ?_
    rintro e w3 ⟨rfl, hb3⟩
    have B3 := below_trans hb2 hb3
    go_wp2_with fail
    refine (HSZ.out _).mono ?_
    rintro e w3 ⟨rfl, rfl⟩
    go_wp2_with (first | (with_reducible (show wpList _ _ _ ({ dst := _, op := Op.load 26 _, type := _, pos := _, after := _, guard := none } :: _) _ _); refine wpList_load_mid rfl 26 _ rfl w1.heap.size 0 rfl X.toList _ (hra.out _ B3) layFields rfl hi2.out ?_) | (with_reducible (show wpList _ _ _ ({ dst := _, op := Op.load 26 _, type := _, pos := _, after := _, guard := some _ } :: _) _ _); refine wpList_load_mid_g rfl 26 _ rfl w1.heap.size 0 rfl X.toList _ (hra.out _ B3) layFields rfl hi2.out ?_))
    refine (HRG.out _).mono ?_
    rintro e w4 ⟨rfl, hb4⟩
    have B4 := below_trans B3 hb4
    go_wp2_with fail
    go_ret
    exact ⟨rfl, HBW.out.trans (B4.mono HBW.out.size)⟩
end Go.Proofs.Ytabgpoagnofifaa
