/-
  RING: the law RingApart.
-/
import Derived.Test.YtabgpoagnofifaaRows
import Derived.ProofKit
import Derived.Test.YtabgpoagnofifaaRingP
namespace Go.Proofs.Ytabgpoagnofifaa
open Go.ChangeShapes Go.WideShapes Go.ChangeAt Go.RowKit

set_option maxHeartbeats 8000000 in
theorem walkRingApart (a b c c2 d d2 i j : Int) (w : World) (ha : 0 ≤ a ∧ a ≤ 255) (hb : 0 ≤ b ∧ b ≤ 255) (hc : 0 ≤ c ∧ c ≤ 255) (hc2 : 0 ≤ c2 ∧ c2 ≤ 255) (hd : 0 ≤ d ∧ d ≤ 255) (hd2 : 0 ≤ d2 ∧ d2 ≤ 255) (hi : 0 ≤ i ∧ i ≤ 65535) (hj : 0 ≤ j ∧ j ≤ 65535) :
    Calls Try.prog 5 #[.int .u8 a, .int .u8 b, .agg #[.int .u8 c, .int .u8 c2], .agg #[.int .u8 d, .int .u8 d2], .int .u16 i, .int .u16 j] w fun e w' => e = .returned (.bool true) ∧ Below w.heap.size w w' := by
  obtain ⟨m, hm⟩ : ∃ m, Int.tmod a 3 = m := ⟨_, rfl⟩
  obtain ⟨k, hk⟩ : ∃ m, Int.tmod b 64 = m := ⟨_, rfl⟩
  obtain ⟨r, hr⟩ : ∃ m, Int.tmod d 8 = m := ⟨_, rfl⟩
  obtain ⟨r2, hr2⟩ : ∃ m, Int.tmod d2 8 = m := ⟨_, rfl⟩
  obtain ⟨x, hx⟩ : ∃ q, Int.tmod c (1 + m) = q := ⟨_, rfl⟩
  obtain ⟨y, hy⟩ : ∃ q, Int.tmod c2 (1 + m) = q := ⟨_, rfl⟩
  have h1 : 0 ≤ m ∧ m ≤ 2 := by rw [Int.tmod_eq_emod_of_nonneg ha.1] at hm; omega
  have h2 : 0 ≤ k ∧ k ≤ 63 := by rw [Int.tmod_eq_emod_of_nonneg hb.1] at hk; omega
  have h3 : 0 ≤ r ∧ r ≤ 7 := by rw [Int.tmod_eq_emod_of_nonneg hd.1] at hr; omega
  have h32 : 0 ≤ r2 ∧ r2 ≤ 7 := by rw [Int.tmod_eq_emod_of_nonneg hd2.1] at hr2; omega
  have h4 : 0 ≤ x ∧ x < 1 + m := by
    rw [Int.tmod_eq_emod_of_nonneg hc.1] at hx
    rw [← hx]; exact ⟨Int.emod_nonneg _ (by omega), Int.emod_lt_of_pos _ (by omega)⟩
  have h42 : 0 ≤ y ∧ y < 1 + m := by
    rw [Int.tmod_eq_emod_of_nonneg hc2.1] at hy
    rw [← hy]; exact ⟨Int.emod_nonneg _ (by omega), Int.emod_lt_of_pos _ (by omega)⟩
  have hne : 1 + m ≠ 0 := by omega
  obtain ⟨X, hX⟩ : ∃ X, X = lay2 (1 + m) (1 + k) := ⟨_, rfl⟩
  have hWh := fun w => where_any a b m k hm hk h1 h2 w
  rw [← hX] at hWh
  have x25 : X.size = 25 := by rw [hX]; rfl
  have x0 : X[0]? = some (.int .i64 (1 + m)) := by rw [hX]; rfl
  have x4 : X[4]? = some (.int .i64 (1 + k)) := by rw [hX]; rfl
  have x17 : X[17]? = some (.int .i64 (4 + 8 * (1 + m))) := by rw [hX]; rfl
  have x18 : X[18]? = some (.int .i64 (4 + 8 * (1 + m) + (1 + m) * cellsP (ringsP (1 + k)))) := by rw [hX]; rfl
  have hOn : Hid (X.all (·.oneCell') = true) := Lib.hid (by rw [hX]; simp [lay2, layC, Value.oneCell'])
  have hi1 : Hid ((Try.prog.info? 26).map (·.size) = some X.size) := Lib.hid (by rw [x25]; exact lay25)
  have hi2 : Hid ((Try.prog.info? 26).map (·.size) = some X.toList.length) := Lib.hid (by rw [Array.length_toList, x25]; exact lay25)
  obtain ⟨g, hg⟩ : ∃ g, 4 + 8 * (1 + m) = g := ⟨_, rfl⟩
  obtain ⟨f, hf⟩ : ∃ f, 4 + 8 * (1 + m) + (1 + m) * cellsP (ringsP (1 + k)) = f := ⟨_, rfl⟩
  rw [hf] at x18
  rw [hg] at x17 hf
  have hPA := fun w => place_lay X (1 + m) (1 + k) g x r i x25 x0 x4 x17 (by omega) (by omega) w
  have hPB := fun w => place_lay X (1 + m) (1 + k) g y r2 j x25 x0 x4 x17 (by omega) (by omega) w
  have hin := place_in (1 + m) (1 + k) g x r i h3.1 h4 (by omega) (by omega)
  have hap := place_apart (1 + m) (1 + k) g x y r r2 i j h3.1 h32.1 h4 h42 (by omega) (by omega)
  rw [hf] at hin
  obtain ⟨p, hp⟩ : ∃ p, placeP (ringP (1 + m) (1 + k) g x r) (sizeP r) i = p := ⟨_, rfl⟩
  obtain ⟨q, hq⟩ : ∃ p, placeP (ringP (1 + m) (1 + k) g y r2) (sizeP r2) j = p := ⟨_, rfl⟩
  rw [hp] at hPA hin hap
  rw [hq] at hPB hap
  have HWh := Lib.hid hWh
  have HX25 := Lib.hid x25
  have HPA := Lib.hid hPA
  have HPB := Lib.hid hPB
  have H17 := Lib.hid x17
  have H18 := Lib.hid x18
  clear hX hWh x25 x0 x4 x17 x18 hp hq hPA hPB hg hf
  obtain ⟨V, hV⟩ : ∃ V, V = (w.alloc (Obj.cells #[.int .u8 c, .int .u8 c2] 37)).alloc (Obj.cells #[.int .u8 d, .int .u8 d2] 37) := ⟨_, rfl⟩
  have HS : Hid (Blk V w.heap.size 37 #[.int .u8 c, .int .u8 c2]) := Lib.hid (by rw [hV]; exact (Blk.made w _ _).alloc _)
  have HR : Hid (Blk V (w.heap.size + 1) 37 #[.int .u8 d, .int .u8 d2]) := Lib.hid (by
    rw [hV]
    have := Blk.made (w.alloc (Obj.cells #[.int .u8 c, .int .u8 c2] 37)) 37 #[.int .u8 d, .int .u8 d2]
    simpa [go_sem] using this)
  have HBV : Hid (Below w.heap.size w V) := Lib.hid (by rw [hV]; exact ((Below.refl _ w).alloc (Nat.le_refl _) _).alloc (by simp [go_sem]) _)
  have HV := Lib.hid hV
  clear hV
  by_cases hp0 : 0 ≤ p
  · obtain ⟨b1, b2⟩ := hin hp0
    by_cases hq0 : 0 ≤ q
    · have hap2 := hap hp0 hq0
      clear hin hap
      by_cases hpq : p = q
      · obtain ⟨rfl, rfl⟩ := hap2 hpq
        subst hpq
        clear hap2
        go_enter Try.func5, Try.ntmps5
        go_wp2_with fail
        rw [← HV.out]
        refine (awake_any V).mono ?_
        rintro e w0 ⟨rfl, hb0⟩
        go_wp2_with fail
        refine (HWh.out w0).mono ?_
        rintro e w1 ⟨rfl, hb01⟩
        have hb1 := below_trans hb0 hb01
        obtain ⟨W, hW⟩ : ∃ W, W = (w1.alloc (Obj.cells #[.int .i64 0, .int .i64 0, .int .i64 0, .int .i64 0, .int .i64 0, .int .i64 0, .int .i64 0, .int .i64 0, .int .i64 0, .int .i64 0, .int .i64 0, .int .i64 0, .int .i64 0, .int .i64 0, .int .i64 0, .int .i64 0, .int .i64 0, .int .i64 0, .int .i64 0, .int .i64 0, .int .i64 0, .int .i64 0, .int .i64 0, .int .i64 0, .int .i64 0] 26)).setCells w1.heap.size 0 X.toList := ⟨_, rfl⟩
        have HN := Blk.made w1 26 #[.int .i64 0, .int .i64 0, .int .i64 0, .int .i64 0, .int .i64 0, .int .i64 0, .int .i64 0, .int .i64 0, .int .i64 0, .int .i64 0, .int .i64 0, .int .i64 0, .int .i64 0, .int .i64 0, .int .i64 0, .int .i64 0, .int .i64 0, .int .i64 0, .int .i64 0, .int .i64 0, .int .i64 0, .int .i64 0, .int .i64 0, .int .i64 0, .int .i64 0]
        have HA : Blk W w1.heap.size 26 X := by rw [hW]; exact HN.put_whole X.toList (by rw [Array.length_toList, HX25.out]; rfl)
        have hbW : Below V.heap.size V W := by rw [hW]; exact (hb1.alloc hb1.size _).trans (Lib.below_setCells_w hb1.size _ _ _)
        have hth1 : Hid ((w1.alloc (Obj.cells #[.int .i64 0, .int .i64 0, .int .i64 0, .int .i64 0, .int .i64 0, .int .i64 0, .int .i64 0, .int .i64 0, .int .i64 0, .int .i64 0, .int .i64 0, .int .i64 0, .int .i64 0, .int .i64 0, .int .i64 0, .int .i64 0, .int .i64 0, .int .i64 0, .int .i64 0, .int .i64 0, .int .i64 0, .int .i64 0, .int .i64 0, .int .i64 0, .int .i64 0] 26)).there w1.heap.size 0 X.size) := Lib.hid fun j hj => by
          rw [Nat.zero_add]
          obtain ⟨u, hu⟩ := HN.has j (by rw [HX25.out] at hj; exact hj)
          exact ⟨by rw [hu]; rfl, HN.free j⟩
        have hra : Hid (∀ wx, Below W.heap.size W wx → World.rangeAt wx w1.heap.size 0 X.toList) := Lib.hid fun wx hx j v hv => by
          rw [Nat.zero_add, (HA.later hx).cell]; simpa using hv
        have HC : Hid (∀ wx, Below W.heap.size W wx → wx.cell? ⟨w1.heap.size, 17, none⟩ = some (.int .i64 g) ∧ wx.cell? ⟨w1.heap.size, 18, none⟩ = some (.int .i64 f)) := Lib.hid fun wx hx =>
          ⟨((HA.later hx).cell 17).trans H17.out, ((HA.later hx).cell 18).trans H18.out⟩
        have HD : Hid (∀ wx, Below W.heap.size W wx → wx.cell? ⟨w.heap.size, 0, none⟩ = some (.int .u8 c) ∧ wx.cell? ⟨w.heap.size, 1, none⟩ = some (.int .u8 c2) ∧ wx.cell? ⟨w.heap.size + 1, 0, none⟩ = some (.int .u8 d) ∧ wx.cell? ⟨w.heap.size + 1, 1, none⟩ = some (.int .u8 d2)) := Lib.hid fun wx hx => by
          have hx2 := below_trans hbW hx
          exact ⟨(HS.out.later hx2).cell 0, (HS.out.later hx2).cell 1, (HR.out.later hx2).cell 0, (HR.out.later hx2).cell 1⟩
        have HW := Lib.hid hW
        have HBW := Lib.hid hbW
        obtain ⟨s0, s1, r0, r1⟩ := HD.out W (Below.refl _ _)
        clear hW hbW HN HA
        go_wp2_with (first
          | (with_reducible (show wpList _ _ _ ({ dst := _, op := Op.load 26 _, type := _, pos := _, after := _, guard := none } :: _) _ _); refine wpList_load_mid rfl 26 _ rfl w1.heap.size 0 rfl X.toList _ (hra.out _ (Below.refl _ _)) layFields rfl hi2.out ?_)
          | (with_reducible (show wpList _ _ _ ({ dst := none, op := Op.store 26 _ _, type := _, pos := _, after := _, guard := none } :: _) _ _); refine wpList_store_mid rfl 26 _ _ rfl w1.heap.size 0 X rfl rfl hth1.out hi1.out hOn.out ?_; rw [← HW.out]))
        refine (HPA.out _).mono ?_
        rintro e w2 ⟨rfl, hb2⟩
        obtain ⟨m0, m1, n0, n1⟩ := HD.out w2 hb2
        go_wp2_with (first | (with_reducible (show wpList _ _ _ ({ dst := _, op := Op.load 26 _, type := _, pos := _, after := _, guard := none } :: _) _ _); refine wpList_load_mid rfl 26 _ rfl w1.heap.size 0 rfl X.toList _ (hra.out _ hb2) layFields rfl hi2.out ?_))
        refine (HPB.out _).mono ?_
        rintro e w3 ⟨rfl, hb3⟩
        have B3 := below_trans hb2 hb3
        obtain ⟨k0, k1, l0, l1⟩ := HD.out w3 B3
        obtain ⟨t17, t18⟩ := HC.out w3 B3
        go_wp2_with fail
        go_ret
        exact ⟨rfl, HBV.out.trans ((HBW.out.trans (B3.mono HBW.out.size)).mono HBV.out.size)⟩
      · clear hap2
        have z1 : (p == q) = false := by simp; exact hpq
        have z2 : (p != q) = true := by simp; exact hpq
        go_enter Try.func5, Try.ntmps5
        go_wp2_with fail
        rw [← HV.out]
        refine (awake_any V).mono ?_
        rintro e w0 ⟨rfl, hb0⟩
        go_wp2_with fail
        refine (HWh.out w0).mono ?_
        rintro e w1 ⟨rfl, hb01⟩
        have hb1 := below_trans hb0 hb01
        obtain ⟨W, hW⟩ : ∃ W, W = (w1.alloc (Obj.cells #[.int .i64 0, .int .i64 0, .int .i64 0, .int .i64 0, .int .i64 0, .int .i64 0, .int .i64 0, .int .i64 0, .int .i64 0, .int .i64 0, .int .i64 0, .int .i64 0, .int .i64 0, .int .i64 0, .int .i64 0, .int .i64 0, .int .i64 0, .int .i64 0, .int .i64 0, .int .i64 0, .int .i64 0, .int .i64 0, .int .i64 0, .int .i64 0, .int .i64 0] 26)).setCells w1.heap.size 0 X.toList := ⟨_, rfl⟩
        have HN := Blk.made w1 26 #[.int .i64 0, .int .i64 0, .int .i64 0, .int .i64 0, .int .i64 0, .int .i64 0, .int .i64 0, .int .i64 0, .int .i64 0, .int .i64 0, .int .i64 0, .int .i64 0, .int .i64 0, .int .i64 0, .int .i64 0, .int .i64 0, .int .i64 0, .int .i64 0, .int .i64 0, .int .i64 0, .int .i64 0, .int .i64 0, .int .i64 0, .int .i64 0, .int .i64 0]
        have HA : Blk W w1.heap.size 26 X := by rw [hW]; exact HN.put_whole X.toList (by rw [Array.length_toList, HX25.out]; rfl)
        have hbW : Below V.heap.size V W := by rw [hW]; exact (hb1.alloc hb1.size _).trans (Lib.below_setCells_w hb1.size _ _ _)
        have hth1 : Hid ((w1.alloc (Obj.cells #[.int .i64 0, .int .i64 0, .int .i64 0, .int .i64 0, .int .i64 0, .int .i64 0, .int .i64 0, .int .i64 0, .int .i64 0, .int .i64 0, .int .i64 0, .int .i64 0, .int .i64 0, .int .i64 0, .int .i64 0, .int .i64 0, .int .i64 0, .int .i64 0, .int .i64 0, .int .i64 0, .int .i64 0, .int .i64 0, .int .i64 0, .int .i64 0, .int .i64 0] 26)).there w1.heap.size 0 X.size) := Lib.hid fun j hj => by
          rw [Nat.zero_add]
          obtain ⟨u, hu⟩ := HN.has j (by rw [HX25.out] at hj; exact hj)
          exact ⟨by rw [hu]; rfl, HN.free j⟩
        have hra : Hid (∀ wx, Below W.heap.size W wx → World.rangeAt wx w1.heap.size 0 X.toList) := Lib.hid fun wx hx j v hv => by
          rw [Nat.zero_add, (HA.later hx).cell]; simpa using hv
        have HC : Hid (∀ wx, Below W.heap.size W wx → wx.cell? ⟨w1.heap.size, 17, none⟩ = some (.int .i64 g) ∧ wx.cell? ⟨w1.heap.size, 18, none⟩ = some (.int .i64 f)) := Lib.hid fun wx hx =>
          ⟨((HA.later hx).cell 17).trans H17.out, ((HA.later hx).cell 18).trans H18.out⟩
        have HD : Hid (∀ wx, Below W.heap.size W wx → wx.cell? ⟨w.heap.size, 0, none⟩ = some (.int .u8 c) ∧ wx.cell? ⟨w.heap.size, 1, none⟩ = some (.int .u8 c2) ∧ wx.cell? ⟨w.heap.size + 1, 0, none⟩ = some (.int .u8 d) ∧ wx.cell? ⟨w.heap.size + 1, 1, none⟩ = some (.int .u8 d2)) := Lib.hid fun wx hx => by
          have hx2 := below_trans hbW hx
          exact ⟨(HS.out.later hx2).cell 0, (HS.out.later hx2).cell 1, (HR.out.later hx2).cell 0, (HR.out.later hx2).cell 1⟩
        have HW := Lib.hid hW
        have HBW := Lib.hid hbW
        obtain ⟨s0, s1, r0, r1⟩ := HD.out W (Below.refl _ _)
        clear hW hbW HN HA
        go_wp2_with (first
          | (with_reducible (show wpList _ _ _ ({ dst := _, op := Op.load 26 _, type := _, pos := _, after := _, guard := none } :: _) _ _); refine wpList_load_mid rfl 26 _ rfl w1.heap.size 0 rfl X.toList _ (hra.out _ (Below.refl _ _)) layFields rfl hi2.out ?_)
          | (with_reducible (show wpList _ _ _ ({ dst := none, op := Op.store 26 _ _, type := _, pos := _, after := _, guard := none } :: _) _ _); refine wpList_store_mid rfl 26 _ _ rfl w1.heap.size 0 X rfl rfl hth1.out hi1.out hOn.out ?_; rw [← HW.out]))
        refine (HPA.out _).mono ?_
        rintro e w2 ⟨rfl, hb2⟩
        obtain ⟨m0, m1, n0, n1⟩ := HD.out w2 hb2
        go_wp2_with (first | (with_reducible (show wpList _ _ _ ({ dst := _, op := Op.load 26 _, type := _, pos := _, after := _, guard := none } :: _) _ _); refine wpList_load_mid rfl 26 _ rfl w1.heap.size 0 rfl X.toList _ (hra.out _ hb2) layFields rfl hi2.out ?_))
        refine (HPB.out _).mono ?_
        rintro e w3 ⟨rfl, hb3⟩
        have B3 := below_trans hb2 hb3
        obtain ⟨k0, k1, l0, l1⟩ := HD.out w3 B3
        obtain ⟨t17, t18⟩ := HC.out w3 B3
        go_wp2_with fail
        go_ret
        exact ⟨rfl, HBV.out.trans ((HBW.out.trans (B3.mono HBW.out.size)).mono HBV.out.size)⟩
    · clear hin hap
      go_enter Try.func5, Try.ntmps5
      go_wp2_with fail
      rw [← HV.out]
      refine (awake_any V).mono ?_
      rintro e w0 ⟨rfl, hb0⟩
      go_wp2_with fail
      refine (HWh.out w0).mono ?_
      rintro e w1 ⟨rfl, hb01⟩
      have hb1 := below_trans hb0 hb01
      obtain ⟨W, hW⟩ : ∃ W, W = (w1.alloc (Obj.cells #[.int .i64 0, .int .i64 0, .int .i64 0, .int .i64 0, .int .i64 0, .int .i64 0, .int .i64 0, .int .i64 0, .int .i64 0, .int .i64 0, .int .i64 0, .int .i64 0, .int .i64 0, .int .i64 0, .int .i64 0, .int .i64 0, .int .i64 0, .int .i64 0, .int .i64 0, .int .i64 0, .int .i64 0, .int .i64 0, .int .i64 0, .int .i64 0, .int .i64 0] 26)).setCells w1.heap.size 0 X.toList := ⟨_, rfl⟩
      have HN := Blk.made w1 26 #[.int .i64 0, .int .i64 0, .int .i64 0, .int .i64 0, .int .i64 0, .int .i64 0, .int .i64 0, .int .i64 0, .int .i64 0, .int .i64 0, .int .i64 0, .int .i64 0, .int .i64 0, .int .i64 0, .int .i64 0, .int .i64 0, .int .i64 0, .int .i64 0, .int .i64 0, .int .i64 0, .int .i64 0, .int .i64 0, .int .i64 0, .int .i64 0, .int .i64 0]
      have HA : Blk W w1.heap.size 26 X := by rw [hW]; exact HN.put_whole X.toList (by rw [Array.length_toList, HX25.out]; rfl)
      have hbW : Below V.heap.size V W := by rw [hW]; exact (hb1.alloc hb1.size _).trans (Lib.below_setCells_w hb1.size _ _ _)
      have hth1 : Hid ((w1.alloc (Obj.cells #[.int .i64 0, .int .i64 0, .int .i64 0, .int .i64 0, .int .i64 0, .int .i64 0, .int .i64 0, .int .i64 0, .int .i64 0, .int .i64 0, .int .i64 0, .int .i64 0, .int .i64 0, .int .i64 0, .int .i64 0, .int .i64 0, .int .i64 0, .int .i64 0, .int .i64 0, .int .i64 0, .int .i64 0, .int .i64 0, .int .i64 0, .int .i64 0, .int .i64 0] 26)).there w1.heap.size 0 X.size) := Lib.hid fun j hj => by
        rw [Nat.zero_add]
        obtain ⟨u, hu⟩ := HN.has j (by rw [HX25.out] at hj; exact hj)
        exact ⟨by rw [hu]; rfl, HN.free j⟩
      have hra : Hid (∀ wx, Below W.heap.size W wx → World.rangeAt wx w1.heap.size 0 X.toList) := Lib.hid fun wx hx j v hv => by
        rw [Nat.zero_add, (HA.later hx).cell]; simpa using hv
      have HC : Hid (∀ wx, Below W.heap.size W wx → wx.cell? ⟨w1.heap.size, 17, none⟩ = some (.int .i64 g) ∧ wx.cell? ⟨w1.heap.size, 18, none⟩ = some (.int .i64 f)) := Lib.hid fun wx hx =>
        ⟨((HA.later hx).cell 17).trans H17.out, ((HA.later hx).cell 18).trans H18.out⟩
      have HD : Hid (∀ wx, Below W.heap.size W wx → wx.cell? ⟨w.heap.size, 0, none⟩ = some (.int .u8 c) ∧ wx.cell? ⟨w.heap.size, 1, none⟩ = some (.int .u8 c2) ∧ wx.cell? ⟨w.heap.size + 1, 0, none⟩ = some (.int .u8 d) ∧ wx.cell? ⟨w.heap.size + 1, 1, none⟩ = some (.int .u8 d2)) := Lib.hid fun wx hx => by
        have hx2 := below_trans hbW hx
        exact ⟨(HS.out.later hx2).cell 0, (HS.out.later hx2).cell 1, (HR.out.later hx2).cell 0, (HR.out.later hx2).cell 1⟩
      have HW := Lib.hid hW
      have HBW := Lib.hid hbW
      obtain ⟨s0, s1, r0, r1⟩ := HD.out W (Below.refl _ _)
      clear hW hbW HN HA
      go_wp2_with (first
        | (with_reducible (show wpList _ _ _ ({ dst := _, op := Op.load 26 _, type := _, pos := _, after := _, guard := none } :: _) _ _); refine wpList_load_mid rfl 26 _ rfl w1.heap.size 0 rfl X.toList _ (hra.out _ (Below.refl _ _)) layFields rfl hi2.out ?_)
        | (with_reducible (show wpList _ _ _ ({ dst := none, op := Op.store 26 _ _, type := _, pos := _, after := _, guard := none } :: _) _ _); refine wpList_store_mid rfl 26 _ _ rfl w1.heap.size 0 X rfl rfl hth1.out hi1.out hOn.out ?_; rw [← HW.out]))
      refine (HPA.out _).mono ?_
      rintro e w2 ⟨rfl, hb2⟩
      obtain ⟨m0, m1, n0, n1⟩ := HD.out w2 hb2
      go_wp2_with (first | (with_reducible (show wpList _ _ _ ({ dst := _, op := Op.load 26 _, type := _, pos := _, after := _, guard := none } :: _) _ _); refine wpList_load_mid rfl 26 _ rfl w1.heap.size 0 rfl X.toList _ (hra.out _ hb2) layFields rfl hi2.out ?_))
      refine (HPB.out _).mono ?_
      rintro e w3 ⟨rfl, hb3⟩
      have B3 := below_trans hb2 hb3
      obtain ⟨k0, k1, l0, l1⟩ := HD.out w3 B3
      obtain ⟨t17, t18⟩ := HC.out w3 B3
      go_wp2_with fail
      go_ret
      exact ⟨rfl, HBV.out.trans ((HBW.out.trans (B3.mono HBW.out.size)).mono HBV.out.size)⟩
  · clear hin hap
    go_enter Try.func5, Try.ntmps5
    go_wp2_with fail
    rw [← HV.out]
    refine (awake_any V).mono ?_
    rintro e w0 ⟨rfl, hb0⟩
    go_wp2_with fail
    refine (HWh.out w0).mono ?_
    rintro e w1 ⟨rfl, hb01⟩
    have hb1 := below_trans hb0 hb01
    obtain ⟨W, hW⟩ : ∃ W, W = (w1.alloc (Obj.cells #[.int .i64 0, .int .i64 0, .int .i64 0, .int .i64 0, .int .i64 0, .int .i64 0, .int .i64 0, .int .i64 0, .int .i64 0, .int .i64 0, .int .i64 0, .int .i64 0, .int .i64 0, .int .i64 0, .int .i64 0, .int .i64 0, .int .i64 0, .int .i64 0, .int .i64 0, .int .i64 0, .int .i64 0, .int .i64 0, .int .i64 0, .int .i64 0, .int .i64 0] 26)).setCells w1.heap.size 0 X.toList := ⟨_, rfl⟩
    have HN := Blk.made w1 26 #[.int .i64 0, .int .i64 0, .int .i64 0, .int .i64 0, .int .i64 0, .int .i64 0, .int .i64 0, .int .i64 0, .int .i64 0, .int .i64 0, .int .i64 0, .int .i64 0, .int .i64 0, .int .i64 0, .int .i64 0, .int .i64 0, .int .i64 0, .int .i64 0, .int .i64 0, .int .i64 0, .int .i64 0, .int .i64 0, .int .i64 0, .int .i64 0, .int .i64 0]
    have HA : Blk W w1.heap.size 26 X := by rw [hW]; exact HN.put_whole X.toList (by rw [Array.length_toList, HX25.out]; rfl)
    have hbW : Below V.heap.size V W := by rw [hW]; exact (hb1.alloc hb1.size _).trans (Lib.below_setCells_w hb1.size _ _ _)
    have hth1 : Hid ((w1.alloc (Obj.cells #[.int .i64 0, .int .i64 0, .int .i64 0, .int .i64 0, .int .i64 0, .int .i64 0, .int .i64 0, .int .i64 0, .int .i64 0, .int .i64 0, .int .i64 0, .int .i64 0, .int .i64 0, .int .i64 0, .int .i64 0, .int .i64 0, .int .i64 0, .int .i64 0, .int .i64 0, .int .i64 0, .int .i64 0, .int .i64 0, .int .i64 0, .int .i64 0, .int .i64 0] 26)).there w1.heap.size 0 X.size) := Lib.hid fun j hj => by
      rw [Nat.zero_add]
      obtain ⟨u, hu⟩ := HN.has j (by rw [HX25.out] at hj; exact hj)
      exact ⟨by rw [hu]; rfl, HN.free j⟩
    have hra : Hid (∀ wx, Below W.heap.size W wx → World.rangeAt wx w1.heap.size 0 X.toList) := Lib.hid fun wx hx j v hv => by
      rw [Nat.zero_add, (HA.later hx).cell]; simpa using hv
    have HC : Hid (∀ wx, Below W.heap.size W wx → wx.cell? ⟨w1.heap.size, 17, none⟩ = some (.int .i64 g) ∧ wx.cell? ⟨w1.heap.size, 18, none⟩ = some (.int .i64 f)) := Lib.hid fun wx hx =>
      ⟨((HA.later hx).cell 17).trans H17.out, ((HA.later hx).cell 18).trans H18.out⟩
    have HD : Hid (∀ wx, Below W.heap.size W wx → wx.cell? ⟨w.heap.size, 0, none⟩ = some (.int .u8 c) ∧ wx.cell? ⟨w.heap.size, 1, none⟩ = some (.int .u8 c2) ∧ wx.cell? ⟨w.heap.size + 1, 0, none⟩ = some (.int .u8 d) ∧ wx.cell? ⟨w.heap.size + 1, 1, none⟩ = some (.int .u8 d2)) := Lib.hid fun wx hx => by
      have hx2 := below_trans hbW hx
      exact ⟨(HS.out.later hx2).cell 0, (HS.out.later hx2).cell 1, (HR.out.later hx2).cell 0, (HR.out.later hx2).cell 1⟩
    have HW := Lib.hid hW
    have HBW := Lib.hid hbW
    obtain ⟨s0, s1, r0, r1⟩ := HD.out W (Below.refl _ _)
    clear hW hbW HN HA
    go_wp2_with (first
      | (with_reducible (show wpList _ _ _ ({ dst := _, op := Op.load 26 _, type := _, pos := _, after := _, guard := none } :: _) _ _); refine wpList_load_mid rfl 26 _ rfl w1.heap.size 0 rfl X.toList _ (hra.out _ (Below.refl _ _)) layFields rfl hi2.out ?_)
      | (with_reducible (show wpList _ _ _ ({ dst := none, op := Op.store 26 _ _, type := _, pos := _, after := _, guard := none } :: _) _ _); refine wpList_store_mid rfl 26 _ _ rfl w1.heap.size 0 X rfl rfl hth1.out hi1.out hOn.out ?_; rw [← HW.out]))
    refine (HPA.out _).mono ?_
    rintro e w2 ⟨rfl, hb2⟩
    obtain ⟨m0, m1, n0, n1⟩ := HD.out w2 hb2
    go_wp2_with (first | (with_reducible (show wpList _ _ _ ({ dst := _, op := Op.load 26 _, type := _, pos := _, after := _, guard := none } :: _) _ _); refine wpList_load_mid rfl 26 _ rfl w1.heap.size 0 rfl X.toList _ (hra.out _ hb2) layFields rfl hi2.out ?_))
    refine (HPB.out _).mono ?_
    rintro e w3 ⟨rfl, hb3⟩
    have B3 := below_trans hb2 hb3
    obtain ⟨k0, k1, l0, l1⟩ := HD.out w3 B3
    obtain ⟨t17, t18⟩ := HC.out w3 B3
    go_wp2_with fail
    go_ret
    exact ⟨rfl, HBV.out.trans ((HBW.out.trans (B3.mono HBW.out.size)).mono HBV.out.size)⟩
end Go.Proofs.Ytabgpoagnofifaa
