/-
  RING: the document's Size, Rings, room, Ring, Place, Fits.
-/
import Derived.Test.YtabgpoagnofifaaRows
import Derived.ProofKit
import Derived.Test.YtabgpoagnofifaaLayG
namespace Go.Proofs.Ytabgpoagnofifaa
open Go.ChangeShapes Go.WideShapes Go.ChangeAt Go.RowKit

theorem size_twice (k : Int) (h0 : 0 ≤ k) (h : k ≤ 14) : sizeP (k + 1) = 2 * sizeP k := by
  rcases (show k = 0 ∨ k = 1 ∨ k = 2 ∨ k = 3 ∨ k = 4 ∨ k = 5 ∨ k = 6 ∨ k = 7 ∨ k = 8 ∨ k = 9 ∨ k = 10 ∨ k = 11 ∨ k = 12 ∨ k = 13 ∨ k = 14 by omega) with rfl | rfl | rfl | rfl | rfl | rfl | rfl | rfl | rfl | rfl | rfl | rfl | rfl | rfl | rfl <;> rfl

theorem cells_more (k : Int) (h0 : 0 ≤ k) (h : k ≤ 4) : cellsP (k + 1) = cellsP k + sizeP k := by
  rcases (show k = 0 ∨ k = 1 ∨ k = 2 ∨ k = 3 ∨ k = 4 by omega) with rfl | rfl | rfl | rfl | rfl <;> rfl

theorem rsize_any (r : Int) (w : World) : Calls Try.prog 11 #[.int .i64 r] w fun e w' => e = .returned (.int .i64 (sizeP r)) ∧ w' = w := by
  by_cases h0 : r < 0
  · have HQ : Hid (sizeP r = 0) := Lib.hid (by unfold sizeP; rw [if_pos h0])
    go_enter Try.func11, Try.ntmps11
    go_wp2_with fail
    go_ret
    exact ⟨retI HQ.out.symm, rfl⟩
  · by_cases h1 : 15 < r
    · have HQ : Hid (sizeP r = 0) := Lib.hid (by unfold sizeP; repeat' split
                                                 all_goals omega)
      go_enter Try.func11, Try.ntmps11
      go_wp2_with fail
      go_ret
      exact ⟨retI HQ.out.symm, rfl⟩
    · go_enter Try.func11, Try.ntmps11
      go_wp2_with fail
      go_loop [3, 4] (fun n i => ∃ k : Nat, i = .int .i64 k ∧ (k : Int) ≤ r ∧ n = .int .i64 (sizeP k)) (fun _ i => r.toNat - (intOf i).toNat)
      case atStart => exact ⟨0, rfl, by omega, rfl⟩
      case round =>
        obtain ⟨k, rfl, hk, rfl⟩ := hrel
        have hl := size_le k
        by_cases hlt : (k : Int) < r
        · have ht := size_twice k (by omega) (by omega)
          have HT := Lib.hid ht
          clear ht
          obtain ⟨z, hz⟩ : ∃ z, sizeP k = z := ⟨_, rfl⟩
          rw [hz] at HT hl ⊢
          clear hz
          go_wp2_with fail
          go_round
          case rel => exact ⟨k + 1, by simp, by omega, by rw [show ((k + 1 : Nat) : Int) = k + 1 by simp, HT.out]⟩
          case measure => simp [intOf]; omega
        · have hkr : (k : Int) = r := by omega
          have HK := Lib.hid hkr
          clear hkr
          go_wp2_with fail
          go_ret
          exact ⟨retI (by rw [HK.out]), rfl⟩

theorem rrings_lay (X : Array Value) (t : Int) (h4 : X[4]? = some (.int .i64 t)) (ht : t ≤ 64) (w : World) :
    Calls Try.prog 35 #[.agg X] w fun e w' => e = .returned (.int .i64 (ringsP t)) ∧ Below w.heap.size w w' := by
  have c4 : (w.alloc (Obj.cells X 26)).cell? ⟨w.heap.size, 4, none⟩ = some (.int .i64 t) := ((Blk.made w _ _).cell 4).trans h4
  have hb : Below w.heap.size w (w.alloc (Obj.cells X 26)) := (Below.refl _ w).alloc (Nat.le_refl _) _
  obtain ⟨q, hq⟩ : ∃ q, ringsP t = q := ⟨_, rfl⟩
  rw [hq]
  have HQ := Lib.hid hq
  have HB := Lib.hid hb
  clear hq h4 hb
  obtain ⟨W, hW⟩ : ∃ W, W = w.alloc (Obj.cells X 26) := ⟨_, rfl⟩
  rw [← hW] at c4 HB
  have HW := Lib.hid hW
  clear hW
  go_enter Try.func35, Try.ntmps35
  go_wp2_with fail
  rw [← HW.out]
  go_loop [3, 4] (fun n s => (n = .int .i64 1 ∧ s = .int .i64 4) ∨ (n = .int .i64 2 ∧ s = .int .i64 8 ∧ 4 < t) ∨ (n = .int .i64 3 ∧ s = .int .i64 16 ∧ 8 < t) ∨ (n = .int .i64 4 ∧ s = .int .i64 32 ∧ 16 < t) ∨ (n = .int .i64 5 ∧ s = .int .i64 64 ∧ 32 < t)) (fun n _ => 5 - (intOf n).toNat)
  case atStart => exact .inl ⟨rfl, rfl⟩
  case round =>
    rcases hrel with ⟨rfl, rfl⟩ | ⟨rfl, rfl, h⟩ | ⟨rfl, rfl, h⟩ | ⟨rfl, rfl, h⟩ | ⟨rfl, rfl, h⟩
    · by_cases h2 : 4 < t
      · go_wp2_with fail
        go_round
        case rel => exact .inr (.inl ⟨rfl, rfl, h2⟩)
        case measure => simp [intOf]
      · go_wp2_with fail
        go_ret
        exact ⟨retI (by rw [← HQ.out]; unfold ringsP; rw [if_pos (by omega)]), HB.out⟩
    · by_cases h2 : 8 < t
      · go_wp2_with fail
        go_round
        case rel => exact .inr (.inr (.inl ⟨rfl, rfl, h2⟩))
        case measure => simp [intOf]
      · go_wp2_with fail
        go_ret
        exact ⟨retI (by rw [← HQ.out]; unfold ringsP; rw [if_neg (by omega), if_pos (by omega)]), HB.out⟩
    · by_cases h2 : 16 < t
      · go_wp2_with fail
        go_round
        case rel => exact .inr (.inr (.inr (.inl ⟨rfl, rfl, h2⟩)))
        case measure => simp [intOf]
      · go_wp2_with fail
        go_ret
        exact ⟨retI (by rw [← HQ.out]; unfold ringsP; rw [if_neg (by omega), if_neg (by omega), if_pos (by omega)]), HB.out⟩
    · by_cases h2 : 32 < t
      · go_wp2_with fail
        go_round
        case rel => exact .inr (.inr (.inr (.inr ⟨rfl, rfl, h2⟩)))
        case measure => simp [intOf]
      · go_wp2_with fail
        go_ret
        exact ⟨retI (by rw [← HQ.out]; unfold ringsP; rw [if_neg (by omega), if_neg (by omega), if_neg (by omega), if_pos (by omega)]), HB.out⟩
    · go_wp2_with fail
      go_ret
      exact ⟨retI (by rw [← HQ.out]; unfold ringsP; rw [if_neg (by omega), if_neg (by omega), if_neg (by omega), if_neg (by omega)]), HB.out⟩

def inP (n lo hi : Int) : Bool := decide (lo ≤ n) && decide (n ≤ hi)

theorem rin_any (n lo hi : Int) (w : World) : Calls Try.prog 36 #[.int .i64 n, .int .i64 lo, .int .i64 hi] w fun e w' => e = .returned (.bool (inP n lo hi)) ∧ w' = w := by
  by_cases h1 : lo ≤ n
  · have HF : Hid (inP n lo hi = decide (n ≤ hi)) := Lib.hid (by unfold inP; simp [h1])
    obtain ⟨d, hd⟩ : ∃ d, decide (n ≤ hi) = d := ⟨_, rfl⟩
    rw [hd] at HF
    go_enter Try.func36, Try.ntmps36
    go_wp2_with fail
    go_ret
    exact ⟨by rw [HF.out]; rfl, rfl⟩
  · have HF : Hid (inP n lo hi = false) := Lib.hid (by unfold inP; simp [h1])
    have d1 : decide (lo ≤ n) = false := by simp; omega
    go_enter Try.func36, Try.ntmps36
    go_wp2_with fail
    go_ret
    exact ⟨by rw [HF.out]; rfl, rfl⟩

theorem rroom_any (n : Int) (h0 : 0 ≤ n) (h5 : n ≤ 5) (w : World) : Calls Try.prog 37 #[.int .i64 n] w fun e w' => e = .returned (.int .i64 (cellsP n)) ∧ w' = w := by
  go_enter Try.func37, Try.ntmps37
  go_wp2_with fail
  go_loop [3, 4, 5] (fun o s i => ∃ k : Nat, i = .int .i64 k ∧ (k : Int) ≤ n ∧ o = .int .i64 (cellsP k) ∧ s = .int .i64 (sizeP k)) (fun _ _ i => n.toNat - (intOf i).toNat)
  case atStart => exact ⟨0, rfl, by omega, rfl, rfl⟩
  case round =>
    obtain ⟨k, rfl, hk, rfl, rfl⟩ := hrel
    have hl := size_le k
    have hl2 := cells_le k (by omega)
    by_cases hlt : (k : Int) < n
    · have ht := size_twice k (by omega) (by omega)
      have hc := cells_more k (by omega) (by omega)
      have HT := Lib.hid ht
      have HC := Lib.hid hc
      clear ht hc
      obtain ⟨z, hz⟩ : ∃ z, sizeP k = z := ⟨_, rfl⟩
      obtain ⟨c, hcz⟩ : ∃ z, cellsP k = z := ⟨_, rfl⟩
      rw [hz] at HT HC hl ⊢
      rw [hcz] at HC hl2 ⊢
      clear hz hcz
      go_wp2_with fail
      go_round
      case rel => exact ⟨k + 1, by simp, by omega, by rw [show ((k + 1 : Nat) : Int) = k + 1 by simp, HC.out], by rw [show ((k + 1 : Nat) : Int) = k + 1 by simp, HT.out]⟩
      case measure => simp [intOf]; omega
    · have hkr : (k : Int) = n := by omega
      have HK := Lib.hid hkr
      clear hkr
      go_wp2_with fail
      go_ret
      exact ⟨retI (by rw [HK.out]), rfl⟩
end Go.Proofs.Ytabgpoagnofifaa
