/-
  RING: the law RingMoves.
-/
import Derived.Test.YtabgpoagnofifaaRows
import Derived.ProofKit
import Derived.Test.YtabgpoagnofifaaRingX
import Derived.Test.YtabgpoagnofifaaRingN
import Derived.Test.YtabgpoagnofifaaTail
namespace Go.Proofs.Ytabgpoagnofifaa
open Go.ChangeShapes Go.WideShapes Go.ChangeAt Go.RowKit

theorem Cells.far {w : World} {p : Option Addr} {cs : List Value} (h : Cells w p cs) (a : Addr) (v : Value) (hne : ∀ b off, p = some ⟨b, off, none⟩ → b ≠ a.block) : Cells (w.setCell a v) p cs :=
  ⟨fun i hi => by
    obtain ⟨b, off, h1, h2, h3⟩ := h.at_ i hi
    refine ⟨b, off, h1, by simpa using h2, ?_⟩
    rw [World.cell?_of_block (w := w) (a := ⟨b, off + i, none⟩) (Below.heap_setCell w a v b (hne b off h1))]
    exact h3⟩

set_option maxRecDepth 100000 in
set_option maxHeartbeats 20000000 in
theorem walkRingMoves (a b q0 r0 t : Int) (p : Option Addr) (n cap : Nat) (zs : List Int) (w : World) (ha : 0 ≤ a ∧ a ≤ 255) (hb : 0 ≤ b ∧ b ≤ 255) (hq0 : 0 ≤ q0 ∧ q0 ≤ 255) (hr0 : 0 ≤ r0 ∧ r0 ≤ 255) (ht : 0 ≤ t ∧ t ≤ 65535) (hrow : IsRow .i64 w p n cap zs) :
    Calls Try.prog 6 #[.int .u8 a, .int .u8 b, .int .u8 q0, .int .u8 r0, .int .u16 t, .slice p n cap] w fun e w' => e = .returned (.bool true) ∧ Below w.heap.size w w' := by
  obtain ⟨hI, hIl, hn63⟩ := Ints.of_row hrow
  obtain ⟨xs, hxs⟩ : ∃ xs, zs.take n = xs := ⟨_, rfl⟩
  rw [hxs] at hI hIl
  clear hrow hxs
  obtain ⟨m, hm⟩ : ∃ m, Int.tmod a 3 = m := ⟨_, rfl⟩
  obtain ⟨k, hk⟩ : ∃ m, Int.tmod b 64 = m := ⟨_, rfl⟩
  have h1 : 0 ≤ m ∧ m ≤ 2 := by rw [Int.tmod_eq_emod_of_nonneg ha.1] at hm; omega
  have h2 : 0 ≤ k ∧ k ≤ 63 := by rw [Int.tmod_eq_emod_of_nonneg hb.1] at hk; omega
  obtain ⟨S, hS⟩ : ∃ S, 1 + m = S := ⟨_, rfl⟩
  obtain ⟨T, hT⟩ : ∃ T, 1 + k = T := ⟨_, rfl⟩
  obtain ⟨R, hR⟩ : ∃ R, ringsP T = R := ⟨_, rfl⟩
  have hR5 := rings_le T
  rw [hR] at hR5
  obtain ⟨se, hse⟩ : ∃ x, Int.tmod q0 S = x := ⟨_, rfl⟩
  obtain ⟨r, hr⟩ : ∃ x, Int.tmod r0 R = x := ⟨_, rfl⟩
  have hse2 : 0 ≤ se ∧ se < S := by
    rw [← hse, Int.tmod_eq_emod_of_nonneg hq0.1]
    exact ⟨Int.emod_nonneg _ (by omega), Int.emod_lt_of_pos _ (by omega)⟩
  have hr2 : 0 ≤ r ∧ r < R := by
    rw [← hr, Int.tmod_eq_emod_of_nonneg hr0.1]
    exact ⟨Int.emod_nonneg _ (by omega), Int.emod_lt_of_pos _ (by omega)⟩
  obtain ⟨X, hX⟩ : ∃ X, X = lay2 S T := ⟨_, rfl⟩
  have hWh := fun w => where_any a b m k hm hk h1 h2 w
  rw [hS, hT, ← hX] at hWh
  have x25 : X.size = 25 := by rw [hX]; rfl
  have x0 : X[0]? = some (.int .i64 S) := by rw [hX]; rfl
  have x4 : X[4]? = some (.int .i64 T) := by rw [hX]; rfl
  have x16 : X[16]? = some (.int .i64 (4 + 5 * S)) := by rw [hX]; rfl
  have x17 : X[17]? = some (.int .i64 (4 + 8 * S)) := by rw [hX]; rfl
  have x24 : X[24]? = some (.int .i64 (4 + 8 * S + S * cellsP R + 4 * T)) := by rw [hX, ← hR]; rfl
  have hOn : Hid (X.all (·.oneCell') = true) := Lib.hid (by rw [hX]; simp [lay2, layC, Value.oneCell'])
  have hi1 : Hid ((Try.prog.info? 26).map (·.size) = some X.size) := Lib.hid (by rw [x25]; exact lay25)
  have hi2 : Hid ((Try.prog.info? 26).map (·.size) = some X.toList.length) := Lib.hid (by rw [Array.length_toList, x25]; exact lay25)
  -- the numbers of the memory
  have hc1 := cells_next r hr2.1 (by omega)
  have hc2 := cells_mono (r + 1) R (by omega) (by omega) hR5.2
  have hc0 := cells_le r hr2.1
  have hcR := cells_le R (by omega)
  have hsz := size_pos5 r ⟨hr2.1, by omega⟩
  have hSC : se * cellsP R + cellsP R ≤ S * cellsP R := by
    have := Int.mul_le_mul_of_nonneg_right (show se + 1 ≤ S by omega) hcR.1
    rw [Int.add_mul, Int.one_mul] at this; exact this
  have hSC0 : 0 ≤ se * cellsP R := Int.mul_nonneg hse2.1 hcR.1
  have hSC1 : S * cellsP R ≤ 3 * 124 := Int.mul_le_mul (by omega) hcR.2 hcR.1 (by omega)
  have hrg := ringP_in S T (4 + 8 * S) se r hse2.1 hse2.2 hr2.1 (by rw [hR]; exact hr2.2)
  rw [hR] at hrg
  obtain ⟨Z, hZ⟩ : ∃ Z : Nat, (Z : Int) = 4 + 8 * S + S * cellsP R + 4 * T := ⟨(4 + 8 * S + S * cellsP R + 4 * T).toNat, by omega⟩
  rw [← hZ] at x24
  obtain ⟨D, hD⟩ : ∃ D : Nat, (D : Int) = 4 + 5 * S + se * 3 := ⟨(4 + 5 * S + se * 3).toNat, by omega⟩
  have hDq : 4 + 5 * S + se * 3 = (D : Int) := hD.symm
  have hZb : Z ≤ 1000 := by omega
  have hDg : (D : Int) + 2 < 4 + 8 * S := by omega
  have hDZ : D + 2 < Z := by omega
  have HDQ := Lib.hid fun w => deque_lay X (4 + 5 * S) S se 0 x16 (by omega) x0 (by omega) hse2 (by omega) w
  rw [Int.add_zero, hDq] at HDQ
  have HPL := Lib.hid fun i w => place_lay X S T (4 + 8 * S) se r i x25 x0 x4 x17 (by omega) (by omega) w
  have HRS := Lib.hid fun w => rings_lay X T x4 w
  rw [hR] at HRS
  have HSZ := Lib.hid fun w => size_any r w
  obtain ⟨b1, hb1⟩ : ∃ x, ringP S T (4 + 8 * S) se r = x := ⟨_, rfl⟩
  obtain ⟨z1, hz1⟩ : ∃ x, sizeP r = x := ⟨_, rfl⟩
  have hb1g : 4 + 8 * S ≤ b1 := by rw [← hb1, hrg]; omega
  have hbz : b1 + z1 ≤ Z := by rw [← hb1, ← hz1, hrg, hZ]; omega
  have HROW := Lib.hid fun hn A gm w => row_lies X S T (4 + 8 * S) (4 + 5 * S) se t r b1 z1 Z D n xs x25 x0 x4 x16 x17 (by omega) (by omega) (by omega) hse2 (by omega) hIl hb1 hz1 (by omega) (by omega) (by omega) (by omega) hbz hD (by omega) hn A gm w
  have hap := fun (hn : (n : Int) ≤ z1) i j => ring_apart r b1 t ⟨hr2.1, by omega⟩ (by omega) ht.1 n i j (by rw [hz1]; exact hn)
  rw [hz1] at hap HSZ hsz
  rw [hb1, hz1] at HPL
  obtain ⟨b2, hb2⟩ : ∃ x, ringP S T (4 + 8 * S) se (r + 1) = x := ⟨_, rfl⟩
  obtain ⟨z2, hz2⟩ : ∃ x, sizeP (r + 1) = x := ⟨_, rfl⟩
  have hmv := fun (hn : (n : Int) ≤ sizeP r) wx => moves_any X S T (4 + 8 * S) se r (r + 1) t (t + n) x25 x0 x4 x17 (by omega) (by omega) (by unfold wrap64; omega) (by omega) (by omega) wx
  rw [hb1, hz1, hb2, hz2] at hmv
  have hrg2 : r + 1 < R → b2 = b1 + z1 ∧ 0 < z2 ∧ z2 ≤ 64 ∧ b2 + z2 ≤ Z := fun h => by
    have e1 := ringP_in S T (4 + 8 * S) se (r + 1) hse2.1 hse2.2 (by omega) (by rw [hR]; exact h)
    rw [hR, hb2] at e1
    rw [hb1] at hrg
    rw [hz1] at hc1
    have e2 := size_pos5 (r + 1) ⟨by omega, by omega⟩
    have e3 := cells_next (r + 1) (by omega) (by omega)
    have e4 := cells_mono (r + 1 + 1) R (by omega) (by omega) hR5.2
    rw [hz2] at e2 e3
    omega
  have hrn2 : ¬ r + 1 < R → b2 = -1 := fun h => by
    rw [← hb2]; exact ringP_out S T (4 + 8 * S) se (r + 1) (by omega)
  obtain ⟨N, hN⟩ : ∃ N : Nat, N = if r + 1 < R then n else 0 := ⟨_, rfl⟩
  have hmN : (n : Int) ≤ z1 → movesN b1 z1 b2 z2 t (t + n) = N := fun hn => by
    rw [hN]
    by_cases h : r + 1 < R
    · rw [if_pos h]
      have := hrg2 h
      unfold movesN okP rfitsP
      rw [if_pos (by simp; omega)]; omega
    · rw [if_neg h]
      have := hrn2 h
      unfold movesN okP rfitsP
      rw [if_neg (by simp; omega)]
  have HMV : Hid ((n : Int) ≤ z1 → ∀ wx, Calls Try.prog 15 #[.agg X, .int .i64 se, .int .i64 r, .int .i64 t, .int .i64 (t + n)] wx (MovesAny wx b1 z1 b2 z2 t N)) := Lib.hid fun hn wx => by
    have := hmv hn wx
    rwa [hmN hn] at this
  have HMY : Hid (r + 1 < R → (n : Int) ≤ z1 → ∀ wx, Calls Try.prog 15 #[.agg X, .int .i64 se, .int .i64 r, .int .i64 t, .int .i64 (t + n)] wx (MovesPost wx b1 z1 b2 z2 t n)) := Lib.hid fun h hn wx => by
    have := moves_yes X S T (4 + 8 * S) se r t n x25 x0 x4 x17 (by omega) (by omega) (by omega) (by rw [hb2]; have := hrg2 h; omega) (by omega) (by rw [hz2]; have := hrg2 h; omega) (by omega) (by omega) (by omega) wx
    rwa [hb1, hz1, hb2, hz2] at this
  have HRG2 := Lib.hid hrg2
  have HROW2 := Lib.hid fun (h : r + 1 < R) hn A gm w => row_lies X S T (4 + 8 * S) (4 + 5 * S) se t (r + 1) b2 z2 Z D n xs x25 x0 x4 x16 x17 (by omega) (by omega) (by omega) hse2 (by omega) hIl hb2 hz2 (by have := hrg2 h; omega) (hrg2 h).2.1 (by omega) (by omega) (by have := hrg2 h; omega) hD (by omega) hn A gm w
  have hap2 := fun (h : r + 1 < R) (hn : (n : Int) ≤ z2) i j => ring_apart (r + 1) b2 t ⟨by omega, by omega⟩ (by have := hrg2 h; omega) ht.1 n i j (by rw [hz2]; exact hn)
  rw [hz2] at hap2
  have htw : r + 1 < R → z2 = 2 * z1 := fun h => by
    rw [← hz1, ← hz2]
    rcases (show r = 0 ∨ r = 1 ∨ r = 2 ∨ r = 3 by omega) with h | h | h | h <;> rw [h] <;> rfl
  have HAP2 := Lib.hid hap2
  have HTW := Lib.hid htw
  have HN := Lib.hid hN
  clear hmv hrg2 hrn2 hmN hN hap2 htw
  have HAP := Lib.hid hap
  have HX25 := Lib.hid x25
  have HWh := Lib.hid hWh
  have HX24 := Lib.hid x24
  have HI := Lib.hid hI
  have HIL := Lib.hid hIl
  clear hX hWh x25 x0 x4 x16 x17 x24 hap hI hIl hZ hD hDq hSC hSC0 hSC1 hrg hc0 hc1 hc2 hcR
  have hmx : (if 1 < R then R else 1) = R := by split <;> omega
  have hre : r0 % R = r := by rw [← hr, Int.tmod_eq_emod_of_nonneg hr0.1]
  have hren : wrap64 r = r := by unfold wrap64; omega
  have hS0 : S ≠ 0 := by omega
  have hR0 : R ≠ 0 := by omega
  go_enter Try.func6, Try.ntmps6
  go_wp2_with fail
  refine (awake_any w).mono ?_
  rintro e w0 ⟨rfl, hb0⟩
  go_wp2_with fail
  refine (HWh.out w0).mono ?_
  rintro e w1 ⟨rfl, hb01⟩
  have hb1' := below_trans hb0 hb01
  obtain ⟨W, hW⟩ : ∃ W, W = (w1.alloc (Obj.cells #[.int .i64 0, .int .i64 0, .int .i64 0, .int .i64 0, .int .i64 0, .int .i64 0, .int .i64 0, .int .i64 0, .int .i64 0, .int .i64 0, .int .i64 0, .int .i64 0, .int .i64 0, .int .i64 0, .int .i64 0, .int .i64 0, .int .i64 0, .int .i64 0, .int .i64 0, .int .i64 0, .int .i64 0, .int .i64 0, .int .i64 0, .int .i64 0, .int .i64 0] 26)).setCells w1.heap.size 0 X.toList := ⟨_, rfl⟩
  have HN := Blk.made w1 26 #[.int .i64 0, .int .i64 0, .int .i64 0, .int .i64 0, .int .i64 0, .int .i64 0, .int .i64 0, .int .i64 0, .int .i64 0, .int .i64 0, .int .i64 0, .int .i64 0, .int .i64 0, .int .i64 0, .int .i64 0, .int .i64 0, .int .i64 0, .int .i64 0, .int .i64 0, .int .i64 0, .int .i64 0, .int .i64 0, .int .i64 0, .int .i64 0, .int .i64 0]
  have KX : Blk W w1.heap.size 26 X := by rw [hW]; exact HN.put_whole X.toList (by rw [Array.length_toList, HX25.out]; rfl)
  have hbW : Below w.heap.size w W := by rw [hW]; exact (hb1'.alloc hb1'.size _).trans (Lib.below_setCells_w hb1'.size _ _ _)
  have hth1 : Hid ((w1.alloc (Obj.cells #[.int .i64 0, .int .i64 0, .int .i64 0, .int .i64 0, .int .i64 0, .int .i64 0, .int .i64 0, .int .i64 0, .int .i64 0, .int .i64 0, .int .i64 0, .int .i64 0, .int .i64 0, .int .i64 0, .int .i64 0, .int .i64 0, .int .i64 0, .int .i64 0, .int .i64 0, .int .i64 0, .int .i64 0, .int .i64 0, .int .i64 0, .int .i64 0, .int .i64 0] 26)).there w1.heap.size 0 X.size) := Lib.hid fun j hj => by
    rw [Nat.zero_add]
    obtain ⟨u, hu⟩ := HN.has j (by rw [HX25.out] at hj; exact hj)
    exact ⟨by rw [hu]; rfl, HN.free j⟩
  have hra : Hid (∀ wx, Blk wx w1.heap.size 26 X → World.rangeAt wx w1.heap.size 0 X.toList) := Lib.hid fun wx hx j v hv => by
    rw [Nat.zero_add, hx.cell]; simpa using hv
  have HW := Lib.hid hW
  have HBW := Lib.hid hbW
  have HKX := Lib.hid KX
  have hlb : w.heap.size ≤ w1.heap.size := hb1'.size
  clear hW hbW HN hb0 hb01 hb1' KX
  have hm3 := hm
  go_wp2_with (first
    | (with_reducible (show wpList _ _ _ ({ dst := none, op := Op.store 26 _ _, type := _, pos := _, after := _, guard := none } :: _) _ _); refine wpList_store_mid rfl 26 _ _ rfl w1.heap.size 0 X rfl rfl hth1.out hi1.out hOn.out ?_; rw [← HW.out])
    | (with_reducible (show wpList _ _ _ ({ dst := _, op := Op.load 26 _, type := _, pos := _, after := _, guard := none } :: _) _ _); refine wpList_load_mid rfl 26 _ rfl w1.heap.size 0 rfl X.toList _ (hra.out _ HKX.out) layFields rfl hi2.out ?_))
  refine (HRS.out _).mono ?_
  rintro e w2 ⟨rfl, hb2⟩
  have HKX2 := Lib.hid (HKX.out.later hb2)
  have hbW2 := HBW.out.trans (hb2.mono HBW.out.size)
  have HBW2 := Lib.hid hbW2
  have hlt2 := HKX2.out.lt
  clear hb2 hbW2
  have hZ0 : (0 : Int) ≤ Z := by omega
  by_cases hn70 : (n : Int) ≤ 70
  case neg =>
    have d1 : decide (70 < (n : Int)) = true := by simp; omega
    go_wp2_with fail
    go_ret
    exact ⟨rfl, HBW2.out⟩
  have d1 : decide (70 < (n : Int)) = false := by simp; omega
  by_cases hnz : (n : Int) ≤ z1
  case neg =>
    have d2 : decide (z1 < (n : Int)) = true := by simp; omega
    go_wp2_with fail
    refine (HSZ.out _).mono ?_
    rintro e w' ⟨rfl, rfl⟩
    go_wp2_with fail
    go_ret
    exact ⟨rfl, HBW2.out⟩
  have d2 : decide (z1 < (n : Int)) = false := by simp; omega
  go_wp2_with fail
  refine (HSZ.out _).mono ?_
  rintro e w' ⟨rfl, rfl⟩
  have x24 : w'.cell? ⟨w1.heap.size, 24, none⟩ = some (.int .i64 Z) := (HKX2.out.cell 24).trans HX24.out
  have d3 : decide ((Z : Int) < 1) = false := by simp; omega
  have d4 : decide (5000 < (Z : Int)) = false := by simp; omega
  obtain ⟨i0, hi0, hiz0, hiz1, hiz2⟩ := info_parts intInfo
  have hmk := fun wx => run_make_row (P := Try.prog) 40 3 i0 (.int .i64 0) Try.underlying40 hi0 hiz0 hiz1 rfl .i64 .i64 Z (by rw [hiz2]; omega) (by omega) wx
  obtain ⟨W3, hW3⟩ : ∃ W, W = w'.alloc (Obj.cells (madeCells #[Value.int .i64 0] Z) 3) := ⟨_, rfl⟩
  obtain ⟨A0, hA0⟩ : ∃ A : Array Value, A = madeCells #[Value.int .i64 0] Z := ⟨_, rfl⟩
  have hAs : A0.size = Z := by rw [hA0]; simp [madeCells]
  have KX3 : Blk W3 w1.heap.size 26 X := by rw [hW3]; exact HKX2.out.alloc _
  have KA3 : Blk W3 w'.heap.size 3 A0 := by rw [hW3, hA0]; exact Blk.made _ _ _
  have hbW3 : Below w.heap.size w W3 := by rw [hW3]; exact HBW2.out.alloc HBW2.out.size _
  obtain ⟨gm, hgm⟩ : ∃ g, w'.heap.size = g := ⟨_, rfl⟩
  rw [hgm] at KA3 hlt2
  have HGM := Lib.hid hgm
  have HW3 := Lib.hid hW3
  have HKX3 := Lib.hid KX3
  clear hgm
  go_wp2_with ((with_reducible (show wpList _ _ _ ({ dst := _, op := Op.load 26 _, type := _, pos := _, after := _, guard := none } :: _) _ _)); (try rw [← HW3.out]); refine wpList_load_mid rfl 26 _ rfl w1.heap.size 0 rfl X.toList _ (hra.out _ HKX3.out) layFields rfl hi2.out ?_)
  rw [← HW3.out, HGM.out]
  refine (HDQ.out _).mono ?_
  rintro e w4 ⟨rfl, hb4⟩
  have KX4 := KX3.later hb4
  have KA4 := KA3.later hb4
  have hb04 := hbW3.trans (hb4.mono hbW3.size)
  have hgw : w.heap.size ≤ gm := by rw [← HGM.out]; exact HBW2.out.size
  obtain ⟨u0, c0⟩ := KA4.has D (by omega)
  obtain ⟨u1, c1⟩ := KA4.has (D + 1) (by omega)
  obtain ⟨u2, c2⟩ := KA4.has (D + 2) (by omega)
  have f0 := KA4.free D
  have f1 := KA4.free (D + 1)
  have f2 := KA4.free (D + 2)
  have g0 : (D : Int) < Z := by omega
  have g1 : (D : Int) + 1 < Z := by omega
  have g2 : (D : Int) + 2 < Z := by omega
  clear hmk hi0 hiz0 hiz1 hiz2 d3 d4 x24 hW3 hA0 KX3 KA3 hbW3 hb4 hmx
  go_wp2_with fail
  have nlg : w1.heap.size ≠ gm := by omega
  have lb4 : w.heap.size ≤ gm := hgw
  have hst0 : Lies (((A0.setIfInBounds D (.int .i64 t)).setIfInBounds (D + 1) (.int .i64 (t + n))).setIfInBounds (D + 2) (.int .i64 r)) Z D t n r := Lies.made A0 Z D t n r hAs hDZ
  have hbk0 := ((KA4.put D (.int .i64 t)).put (D + 1) (.int .i64 (t + n))).put (D + 2) (.int .i64 r)
  have hkx0 := ((KX4.far (p := ⟨gm, D, none⟩) nlg (.int .i64 t)).far (p := ⟨gm, D + 1, none⟩) nlg (.int .i64 (t + n))).far (p := ⟨gm, D + 2, none⟩) nlg (.int .i64 r)
  have hbl0 := ((hb04.setCell (p := ⟨gm, D, none⟩) hgw (.int .i64 t)).setCell (p := ⟨gm, D + 1, none⟩) hgw (.int .i64 (t + n))).setCell (p := ⟨gm, D + 2, none⟩) hgw (.int .i64 r)
  clear c0 c1 c2 f0 f1 f2 KA4 KX4 hb04 HKX3 HKX2 HBW2 HKX HBW HW hth1 hAs
  go_loopw [20] (fun i wr => ∃ k : Nat, i = .int .i64 k ∧ k ≤ n ∧ ∃ A, Lies A Z D t n r ∧ InRing A b1 z1 t xs k ∧ Blk wr gm 3 A ∧ Blk wr w1.heap.size 26 X ∧ Below w.heap.size w wr) (fun i _ => n - (intOf i).toNat)
  case atStart => exact ⟨0, rfl, Nat.zero_le _, _, hst0, fun i hi => absurd hi (Nat.not_lt_zero _), hbk0, hkx0, hbl0⟩
  case round =>
    clear hst0 hbk0 hkx0 hbl0
    obtain ⟨k, rfl, hkn, A, hLi, hIn, hBA, hBX, hbl⟩ := hrel
    rename_i wr
    by_cases hlt : k < n
    · have hmod : 0 ≤ (t + k) % z1 ∧ (t + k) % z1 < z1 := ⟨Int.emod_nonneg _ (by omega), Int.emod_lt_of_pos _ hsz.1⟩
      obtain ⟨c, hc⟩ : ∃ c : Nat, (b1 + (t + k) % z1).toNat = c := ⟨_, rfl⟩
      have hpl : placeP b1 z1 (t + k) = (c : Int) := by unfold placeP; rw [if_neg (by omega)]; omega
      have hP := HPL.out (t + k)
      rw [hpl] at hP
      have hcD : D + 2 < c := by omega
      have hcZ : c < Z := by omega
      obtain ⟨bl, off, x, rfl, hbb, qx, hx, -⟩ := (HI.out.later hbl).at_ k (by rw [HIL.out]; exact hlt)
      have hxg : xs.getD k 0 = x := by rw [List.getD_eq_getElem?_getD, hx]; rfl
      have hIn2 := InRing.more hIn x hxg (by rw [hc, hLi.size]; exact hcZ) (fun i hi => HAP.out hnz k i hlt (by omega) (by omega))
      rw [hc] at hIn2
      have hLi2 := hLi.put c hcD (.int .i64 x)
      have HIN := Lib.hid hIn2
      have HLI := Lib.hid hLi2
      have HP := Lib.hid hP
      have g4 : (k : Int) < n := by omega
      have g5 : (c : Int) < Z := by omega
      have hras := hra.out wr hBX
      have HRAS := Lib.hid hras
      have htk : t + k ≤ 70000 := by omega
      have hbls := hbl.size
      clear hIn hIn2 hLi2 hP hpl hmod hc hx hxg hras
      go_wp2_with (with_reducible (show wpList _ _ _ ({ dst := _, op := Op.load 26 _, type := _, pos := _, after := _, guard := none } :: _) _ _); refine wpList_load_mid rfl 26 _ rfl w1.heap.size 0 rfl X.toList _ HRAS.out layFields rfl hi2.out ?_)
      refine (HP.out _).mono ?_
      rintro e w5 ⟨rfl, hb5⟩
      have KA5 := hBA.later hb5
      have KX5 := hBX.later hb5
      have hbl5 := hbl.trans (hb5.mono hbl.size)
      have qx5 : w5.cell? ⟨bl, off + k, none⟩ = some (.int .i64 x) := (hb5.cell (p := ⟨bl, off + k, none⟩) hbb).trans qx
      obtain ⟨u, cu⟩ := KA5.has c (by rw [hLi.size]; exact hcZ)
      have fu := KA5.free c
      have HK5 := Lib.hid KA5
      have HX5 := Lib.hid KX5
      have HB5 := Lib.hid hbl5
      clear hBA hBX hbl hb5 qx KA5 KX5 hbl5 hLi
      go_wp2_with fail
      go_roundw
      case rel => exact ⟨k + 1, by simp, by omega, _, HLI.out, HIN.out, HK5.out.put c _, HX5.out.far (p := ⟨gm, c, none⟩) nlg _, HB5.out.setCell (p := ⟨gm, c, none⟩) hgw _⟩
      case measure => simp [intOf]; omega
    · have hkn2 : n = k := by omega
      subst hkn2
      have hd2 : decide ((n : Int) < n) = false := by simp
      have HRW := Lib.hid (HROW.out hnz A gm wr hLi hIn hBA)
      have HBX := Lib.hid hBX
      clear HPL HAP
      go_wp2_with (with_reducible (show wpList _ _ _ ({ dst := _, op := Op.load 26 _, type := _, pos := _, after := _, guard := none } :: _) _ _); refine wpList_load_mid rfl 26 _ rfl w1.heap.size 0 rfl X.toList _ (hra.out _ HBX.out) layFields rfl hi2.out ?_)
      refine HRW.out.mono ?_
      rintro e w5 ⟨p5, cap5, rfl, hown5, hb5⟩
      have hI5 := (Ints.of_own hown5 HI.out.rng).1
      have hbl5 := hbl.trans (hb5.mono hbl.size)
      have hI0 := HI.out.later hbl5
      have HC := Lib.hid (ints_any p5 p n cap5 cap xs HIL.out (by omega) w5 hI5 hI0)
      have HA5 := Lib.hid (hBA.later hb5)
      have HX5 := Lib.hid (hBX.later hb5)
      have HL5 := Lib.hid hbl5
      have HLI := Lib.hid hLi
      have HIN := Lib.hid hIn
      clear hown5 hI5 hI0 hb5 hbl hbl5 hBA hBX hLi hIn HBX HRW
      go_wp2_with fail
      refine HC.out.mono ?_
      rintro e w6 ⟨rfl, hb6⟩
      have HA6 := Lib.hid (HA5.out.later hb6)
      have HX6 := Lib.hid (HX5.out.later hb6)
      have HL6 := Lib.hid (HL5.out.trans (hb6.mono HL5.out.size))
      clear hb6 HC HA5 HX5 HL5
      go_wp2_with (with_reducible (show wpList _ _ _ ({ dst := _, op := Op.load 26 _, type := _, pos := _, after := _, guard := none } :: _) _ _); refine wpList_load_mid rfl 26 _ rfl w1.heap.size 0 rfl X.toList _ (hra.out _ HX6.out) layFields rfl hi2.out ?_)
      by_cases hlast : r + 1 < R
      case neg =>
        have hN0 : N = 0 := by rw [HN.out, if_neg hlast]
        refine ((HMV.out hnz) w6).mono ?_
        rintro e w7 ⟨p7, cap7, rfl, hc7, hb7⟩
        rw [hN0]
        have HX7 := Lib.hid (HX6.out.later hb7)
        have HL7 := Lib.hid (HL6.out.trans (hb7.mono HL6.out.size))
        have d6 : decide (R ≤ r + 1) = true := by simp; omega
        clear hb7 HA6 HX6 HL6 hc7 hN0
        go_wp2_with (with_reducible (show wpList _ _ _ ({ dst := _, op := Op.load 26 _, type := _, pos := _, after := _, guard := none } :: _) _ _); refine wpList_load_mid rfl 26 _ rfl w1.heap.size 0 rfl X.toList _ (hra.out _ HX7.out) layFields rfl hi2.out ?_)
        refine (HRS.out _).mono ?_
        rintro e w8 ⟨rfl, hb8⟩
        go_wp2_with fail
        go_ret
        exact ⟨rfl, HL7.out.trans (hb8.mono HL7.out.size)⟩
      refine ((HMY.out hlast hnz) w6).mono ?_
      rintro e w7 ⟨p7, cap7, rfl, hown7, hb7⟩
      have hpb : ∀ bb off, p7 = some ⟨bb, off, none⟩ → bb ≠ gm := fun bb off h => by
        have h1 := (hown7.lt bb (by rw [h]; rfl)).1
        have h2 := HA6.out.lt
        omega
      have HPB := Lib.hid hpb
      have HA7 := Lib.hid (HA6.out.later hb7)
      have HX7 := Lib.hid (HX6.out.later hb7)
      have HL7 := Lib.hid (HL6.out.trans (hb7.mono HL6.out.size))
      have HC7 := Lib.hid (Cells.of_own hown7)
      have d6 : decide (R ≤ r + 1) = false := by simp; omega
      clear hb7 HA6 HX6 HL6 hown7 hpb
      go_wp2_with (with_reducible (show wpList _ _ _ ({ dst := _, op := Op.load 26 _, type := _, pos := _, after := _, guard := none } :: _) _ _); refine wpList_load_mid rfl 26 _ rfl w1.heap.size 0 rfl X.toList _ (hra.out _ HX7.out) layFields rfl hi2.out ?_)
      refine (HRS.out _).mono ?_
      rintro e w8 ⟨rfl, hb8⟩
      have HA8 := HA7.out.later hb8
      have HX8 := HX7.out.later hb8
      have HL8 := HL7.out.trans (hb8.mono HL7.out.size)
      have HC8 := HC7.out.later hb8
      clear hb8 HA7 HX7 HL7 HC7 hkn hlt
      obtain ⟨hbb, hz20, hz264, hbz2⟩ := HRG2.out hlast
      have hnz2 : (n : Int) ≤ z2 := by have := HTW.out hlast; omega
      go_wp2_with fail
      go_loopw [24] (fun i wr => ∃ j : Nat, i = .int .i64 j ∧ j ≤ n ∧ ∃ A, Lies A Z D t n r ∧ InRing A b1 z1 t xs n ∧ InRing A b2 z2 t xs j ∧ Blk wr gm 3 A ∧ Blk wr w1.heap.size 26 X ∧ Cells wr p7 (pairsP b1 z1 b2 z2 t n) ∧ Below w.heap.size w wr) (fun i _ => n - (intOf i).toNat)
      case atStart => exact ⟨0, rfl, Nat.zero_le _, A, HLI.out, HIN.out, fun i hi => absurd hi (Nat.not_lt_zero _), HA8, HX8, HC8, HL8⟩
      case round =>
        clear HA8 HX8 HC8 HL8 HLI HIN
        obtain ⟨k, rfl, hkn, A, hLi, hIn1, hIn, hBA, hBX, hCe, hbl⟩ := hrel
        rename_i wr
        by_cases hlt : k < n
        · have hm1 : 0 ≤ (t + k) % z1 ∧ (t + k) % z1 < z1 := ⟨Int.emod_nonneg _ (by omega), Int.emod_lt_of_pos _ hsz.1⟩
          have hm2 : 0 ≤ (t + k) % z2 ∧ (t + k) % z2 < z2 := ⟨Int.emod_nonneg _ (by omega), Int.emod_lt_of_pos _ hz20⟩
          have hpl := pairs_len b1 z1 b2 z2 t n
          have hpa := pairs_at b1 z1 b2 z2 t n k hlt
          obtain ⟨c1, hc1⟩ : ∃ c : Nat, (b1 + (t + k) % z1).toNat = c := ⟨_, rfl⟩
          obtain ⟨c2, hc2⟩ : ∃ c : Nat, (b2 + (t + k) % z2).toNat = c := ⟨_, rfl⟩
          have hi1 := hIn1 k hlt
          obtain ⟨x, hx⟩ : ∃ x, xs.getD k 0 = x := ⟨_, rfl⟩
          rw [hc1, hx] at hi1
          rw [show b1 + (t + k) % z1 = (c1 : Int) by omega, show b2 + (t + k) % z2 = (c2 : Int) by omega] at hpa
          have hIn2 := InRing.more hIn x hx (by rw [hc2, hLi.size]; omega) (fun i hi => HAP2.out hlast hnz2 k i hlt (by omega) (by omega))
          rw [hc2] at hIn2
          have hIn3 := hIn1.keep c2 (.int .i64 x) (fun i hi => by
            have := Int.emod_lt_of_pos (t + i) hsz.1
            have := Int.emod_nonneg (t + i) (show z1 ≠ 0 by omega)
            omega)
          have hLi2 := hLi.put c2 (by omega) (.int .i64 x)
          have g3 : (k : Int) < n := by omega
          have g4 : (c1 : Int) < Z := by omega
          have g5 : (c2 : Int) < Z := by omega
          have g6 : c2 < A.size := by rw [hLi.size]; omega
          have g7 := hBA.lt
          obtain ⟨a1, o1, rfl, l1, gc⟩ := hCe.opened (by rw [hpl]; omega)
          have q0 : wr.cell? ⟨a1, o1 + k * 2, none⟩ = some (.int .i64 c1) := by rw [← gc _ _ hpa.1]; congr 2; omega
          have q1 : wr.cell? ⟨a1, o1 + k * 2 + 1, none⟩ = some (.int .i64 c2) := by rw [← gc _ _ hpa.2]; congr 2; omega
          have q2 : wr.cell? ⟨gm, c1, none⟩ = some (.int .i64 x) := (hBA.cell c1).trans hi1
          have y0 : ∀ y : After wr, y.w.cell? ⟨a1, o1 + k * 2, none⟩ = some (.int .i64 c1) := fun y => (y.cell l1).trans q0
          have y1 : ∀ y : After wr, y.w.cell? ⟨a1, o1 + k * 2 + 1, none⟩ = some (.int .i64 c2) := fun y => (y.cell l1).trans q1
          have y2 : ∀ y : After wr, y.w.cell? ⟨gm, c1, none⟩ = some (.int .i64 x) := fun y => (y.cell g7).trans q2
          have HIN1 := Lib.hid hIn3
          have HIN2 := Lib.hid hIn2
          have HLI := Lib.hid hLi2
          have HBA := Lib.hid hBA
          have HBX := Lib.hid hBX
          have HCE := Lib.hid hCe
          have HBL := Lib.hid hbl
          have hk0 : (0 : Int) ≤ k := by omega
          clear hm1 hm2 hpl hpa hc1 hc2 hi1 hx hIn1 hIn hIn2 hIn3 hLi hLi2 gc hBA hBX hCe hbl
          go_wp2_with fail
          refine wp_region_after_tail 15 (by kernel_rfl) (by kernel_rfl) ?_
          simp only [List.take_succ_cons, List.take_zero, List.drop_succ_cons, List.drop_zero]
          repeat (go_big_quiet_step (fail))
          refine wpQuiet_nil ?_
          rintro _ ⟨y, rfl⟩
          have HA9 := Lib.hid (HBA.out.later y.bel)
          have HX9 := Lib.hid (HBX.out.later y.bel)
          have HC9 := Lib.hid (HCE.out.later y.bel)
          have HL9 := Lib.hid (HBL.out.trans (y.bel.mono HBL.out.size))
          obtain ⟨u, cu⟩ := HA9.out.has c2 g6
          have fu := HA9.out.free c2
          clear y0 y1 y2 q0 q1 q2
          go_wp2_with fail
          go_roundw
          case rel => exact ⟨k + 1, by simp, by omega, _, HLI.out, HIN1.out, HIN2.out, HA9.out.put c2 _, HX9.out.far (p := ⟨gm, c2, none⟩) nlg _, HC9.out.far ⟨gm, c2, none⟩ _ HPB.out, HL9.out.setCell (p := ⟨gm, c2, none⟩) hgw _⟩
          case measure => simp [intOf]; omega
        · have hkn2 : k = n := by omega
          have hd3 : decide ((k : Int) < n) = false := by simp; omega
          rw [hkn2] at hIn
          have hIn2 := hIn.keep (D + 2) (.int .i64 (r + 1)) (fun i hi => by
            have := Int.emod_nonneg (t + i) (show z2 ≠ 0 by omega)
            omega)
          obtain ⟨u, cu⟩ := hBA.has (D + 2) (by rw [hLi.size]; omega)
          have fu := hBA.free (D + 2)
          have HKX := Lib.hid (hBX.far (p := ⟨gm, D + 2, none⟩) nlg (.int .i64 (r + 1)))
          have HBL := Lib.hid (hbl.setCell (p := ⟨gm, D + 2, none⟩) hgw (.int .i64 (r + 1)))
          have HRW := Lib.hid (HROW2.out hlast hnz2 _ gm _ (hLi.turn hDZ (r + 1)) hIn2 (hBA.put (D + 2) (.int .i64 (r + 1))))
          have HCI := Lib.hid hCe
          clear hIn2 hIn hIn1 hLi hBA hBX hbl hCe hkn2
          have hgr : wrap64 (r + 1) = r + 1 := by unfold wrap64; omega
          go_wp2_with (first
            | (with_reducible (show wpList _ _ _ ({ dst := _, op := Op.load 26 _, type := _, pos := _, after := _, guard := some _ } :: _) _ _); refine wpList_load_mid_g rfl 26 _ rfl w1.heap.size 0 rfl X.toList _ (hra.out _ HKX.out) layFields rfl hi2.out ?_))
          refine HRW.out.mono ?_
          rintro e w9 ⟨p9, cap9, rfl, hown9, hb9⟩
          have hI9 := (Ints.of_own hown9 HI.out.rng).1
          have hbl9 := HBL.out.trans (hb9.mono HBL.out.size)
          have hI0 := HI.out.later hbl9
          have HC := Lib.hid (ints_any p9 p n cap9 cap xs HIL.out (by omega) w9 hI9 hI0)
          have HL9 := Lib.hid hbl9
          clear hown9 hI9 hI0 hb9 hbl9
          go_wp2_with fail
          refine HC.out.mono ?_
          rintro e w10 ⟨rfl, hb10⟩
          go_wp2_with fail
          go_ret
          exact ⟨rfl, HL9.out.trans (hb10.mono HL9.out.size)⟩
end Go.Proofs.Ytabgpoagnofifaa
