/-
  LAYOUT: the document's Rings, in, room, may.
-/
import Derived.Test.YtbaeckehchpfaaaRows
import Derived.ProofKit
import Derived.Test.YtbaeckehchpfaaaLayL
namespace Go.Proofs.Ytbaeckehchpfaaa
open Go.ChangeShapes Go.WideShapes Go.ChangeAt Go.RowKit

def sizeP (r : Int) : Int := if r < 0 then 0 else if r = 0 then 4 else if r = 1 then 8 else if r = 2 then 16 else if r = 3 then 32 else if r = 4 then 64 else if r = 5 then 128 else if r = 6 then 256 else if r = 7 then 512 else if r = 8 then 1024 else if r = 9 then 2048 else if r = 10 then 4096 else if r = 11 then 8192 else if r = 12 then 16384 else if r = 13 then 32768 else if r = 14 then 65536 else if r = 15 then 131072 else 0

theorem size_le (r : Int) : 0 ≤ sizeP r ∧ sizeP r ≤ 131072 := by
  unfold sizeP
  repeat' split
  all_goals omega

theorem rings_le (t : Int) : 1 ≤ ringsP t ∧ ringsP t ≤ 5 := by
  unfold ringsP
  repeat' split
  all_goals omega

theorem cells_le (n : Int) (h0 : 0 ≤ n) : 0 ≤ cellsP n ∧ cellsP n ≤ 124 := by
  unfold cellsP
  repeat' split
  all_goals omega

theorem size_twice (k : Int) (h0 : 0 ≤ k) (h : k ≤ 14) : sizeP (k + 1) = 2 * sizeP k := by
  rcases (show k = 0 ∨ k = 1 ∨ k = 2 ∨ k = 3 ∨ k = 4 ∨ k = 5 ∨ k = 6 ∨ k = 7 ∨ k = 8 ∨ k = 9 ∨ k = 10 ∨ k = 11 ∨ k = 12 ∨ k = 13 ∨ k = 14 by omega) with rfl | rfl | rfl | rfl | rfl | rfl | rfl | rfl | rfl | rfl | rfl | rfl | rfl | rfl | rfl <;> rfl

theorem cells_more (k : Int) (h0 : 0 ≤ k) (h : k ≤ 4) : cellsP (k + 1) = cellsP k + sizeP k := by
  rcases (show k = 0 ∨ k = 1 ∨ k = 2 ∨ k = 3 ∨ k = 4 by omega) with rfl | rfl | rfl | rfl | rfl <;> rfl

theorem rrings_lay (X : Array Value) (t : Int) (h4 : X[4]? = some (.int .i64 t)) (ht : t ≤ 64) (w : World) :
    Calls Try.prog 14 #[.agg X] w fun e w' => e = .returned (.int .i64 (ringsP t)) ∧ Below w.heap.size w w' := by
  have c4 : (w.alloc (Obj.cells X 26)).cell? ⟨w.heap.size, 4, none⟩ = some (.int .i64 t) := ((Blk.made w _ _).cell 4).trans h4
  have hb : Below w.heap.size w (w.alloc (Obj.cells X 26)) := (Below.refl _ w).alloc (Nat.le_refl _) _
  obtain ⟨q, hq⟩ : ∃ q, ringsP t = q := ⟨_, rfl⟩
  rw [hq]
  have HQ := Lib.hid hq
  have HB := Lib.hid hb
  clear hq h4 hb
  obtain ⟨W, hW⟩ : ∃ W, W = w.alloc (Obj.cells X 26) := ⟨_, rfl⟩
  rw [← hW] at c4 HB
  have HW := Lib.hid hW
  clear hW
  go_enter Try.func14, Try.ntmps14
  go_wp2_with fail
  rw [← HW.out]
  go_loop [3, 4] (fun n s => (n = .int .i64 1 ∧ s = .int .i64 4) ∨ (n = .int .i64 2 ∧ s = .int .i64 8 ∧ 4 < t) ∨ (n = .int .i64 3 ∧ s = .int .i64 16 ∧ 8 < t) ∨ (n = .int .i64 4 ∧ s = .int .i64 32 ∧ 16 < t) ∨ (n = .int .i64 5 ∧ s = .int .i64 64 ∧ 32 < t)) (fun n _ => 5 - (intOf n).toNat)
  case atStart => exact .inl ⟨rfl, rfl⟩
  case round =>
    rcases hrel with ⟨rfl, rfl⟩ | ⟨rfl, rfl, h⟩ | ⟨rfl, rfl, h⟩ | ⟨rfl, rfl, h⟩ | ⟨rfl, rfl, h⟩
    · by_cases h2 : 4 < t
      · go_wp2_with fail
        go_round
        case rel => exact .inr (.inl ⟨rfl, rfl, h2⟩)
        case measure => simp [intOf]
      · go_wp2_with fail
        go_ret
        exact ⟨retI (by rw [← HQ.out]; unfold ringsP; rw [if_pos (by omega)]), HB.out⟩
    · by_cases h2 : 8 < t
      · go_wp2_with fail
        go_round
        case rel => exact .inr (.inr (.inl ⟨rfl, rfl, h2⟩))
        case measure => simp [intOf]
      · go_wp2_with fail
        go_ret
        exact ⟨retI (by rw [← HQ.out]; unfold ringsP; rw [if_neg (by omega), if_pos (by omega)]), HB.out⟩
    · by_cases h2 : 16 < t
      · go_wp2_with fail
        go_round
        case rel => exact .inr (.inr (.inr (.inl ⟨rfl, rfl, h2⟩)))
        case measure => simp [intOf]
      · go_wp2_with fail
        go_ret
        exact ⟨retI (by rw [← HQ.out]; unfold ringsP; rw [if_neg (by omega), if_neg (by omega), if_pos (by omega)]), HB.out⟩
    · by_cases h2 : 32 < t
      · go_wp2_with fail
        go_round
        case rel => exact .inr (.inr (.inr (.inr ⟨rfl, rfl, h2⟩)))
        case measure => simp [intOf]
      · go_wp2_with fail
        go_ret
        exact ⟨retI (by rw [← HQ.out]; unfold ringsP; rw [if_neg (by omega), if_neg (by omega), if_neg (by omega), if_pos (by omega)]), HB.out⟩
    · go_wp2_with fail
      go_ret
      exact ⟨retI (by rw [← HQ.out]; unfold ringsP; rw [if_neg (by omega), if_neg (by omega), if_neg (by omega), if_neg (by omega)]), HB.out⟩

def inP (n lo hi : Int) : Bool := decide (lo ≤ n) && decide (n ≤ hi)

theorem rin_any (n lo hi : Int) (w : World) : Calls Try.prog 27 #[.int .i64 n, .int .i64 lo, .int .i64 hi] w fun e w' => e = .returned (.bool (inP n lo hi)) ∧ w' = w := by
  by_cases h1 : lo ≤ n
  · have HF : Hid (inP n lo hi = decide (n ≤ hi)) := Lib.hid (by unfold inP; simp [h1])
    obtain ⟨d, hd⟩ : ∃ d, decide (n ≤ hi) = d := ⟨_, rfl⟩
    rw [hd] at HF
    go_enter Try.func27, Try.ntmps27
    go_wp2_with fail
    go_ret
    exact ⟨by rw [HF.out]; rfl, rfl⟩
  · have HF : Hid (inP n lo hi = false) := Lib.hid (by unfold inP; simp [h1])
    have d1 : decide (lo ≤ n) = false := by simp; omega
    go_enter Try.func27, Try.ntmps27
    go_wp2_with fail
    go_ret
    exact ⟨by rw [HF.out]; rfl, rfl⟩

theorem rroom_any (n : Int) (h0 : 0 ≤ n) (h5 : n ≤ 5) (w : World) : Calls Try.prog 28 #[.int .i64 n] w fun e w' => e = .returned (.int .i64 (cellsP n)) ∧ w' = w := by
  go_enter Try.func28, Try.ntmps28
  go_wp2_with fail
  go_loop [3, 4, 5] (fun o s i => ∃ k : Nat, i = .int .i64 k ∧ (k : Int) ≤ n ∧ o = .int .i64 (cellsP k) ∧ s = .int .i64 (sizeP k)) (fun _ _ i => n.toNat - (intOf i).toNat)
  case atStart => exact ⟨0, rfl, by omega, rfl, rfl⟩
  case round =>
    obtain ⟨k, rfl, hk, rfl, rfl⟩ := hrel
    have hl := size_le k
    have hl2 := cells_le k (by omega)
    by_cases hlt : (k : Int) < n
    · have ht := size_twice k (by omega) (by omega)
      have hc := cells_more k (by omega) (by omega)
      have HT := Lib.hid ht
      have HC := Lib.hid hc
      clear ht hc
      obtain ⟨z, hz⟩ : ∃ z, sizeP k = z := ⟨_, rfl⟩
      obtain ⟨c, hcz⟩ : ∃ z, cellsP k = z := ⟨_, rfl⟩
      rw [hz] at HT HC hl ⊢
      rw [hcz] at HC hl2 ⊢
      clear hz hcz
      go_wp2_with fail
      go_round
      case rel => exact ⟨k + 1, by simp, by omega, by rw [show ((k + 1 : Nat) : Int) = k + 1 by simp, HC.out], by rw [show ((k + 1 : Nat) : Int) = k + 1 by simp, HT.out]⟩
      case measure => simp [intOf]; omega
    · have hkr : (k : Int) = n := by omega
      have HK := Lib.hid hkr
      clear hkr
      go_wp2_with fail
      go_ret
      exact ⟨retI (by rw [HK.out]), rfl⟩

def powB (b : Int) : Nat → Bool
  | 0 => false
  | k + 1 => powB b k || (b == 2 ^ k)

theorem powB_seven (b : Int) : powB b 7 = true ↔ Pow2 b := by
  unfold Pow2
  simp only [powB, Bool.or_eq_true, beq_iff_eq, Bool.false_or]
  omega

def mayP (s b sl t ce ma st ch : Int) : Bool := powB b 7 && (inP s 1 8 && (inP sl 1 8 && (inP t 1 64 && (inP ce 0 16 && (inP ma 0 8 && (inP st 0 8 && inP ch 0 8))))))

theorem mayP_iff (s b sl t ce ma st ch : Int) : mayP s b sl t ce ma st ch = true ↔ MayOk s b sl t ce ma st ch := by
  unfold mayP inP
  rw [Bool.and_eq_true, powB_seven]
  simp only [Bool.and_eq_true, decide_eq_true_eq]
  constructor
  · rintro ⟨hp, h1, h2, h3, h4, h5, h6, h7⟩
    refine ⟨h1, ?_, h2, h3, h4, h5, h6, h7, hp⟩
    unfold Pow2 at hp; omega
  · rintro ⟨h1, h2, h3, h4, h5, h6, h7, h8, hp⟩
    exact ⟨hp, h1, h3, h4, h5, h6, h7, h8⟩

set_option maxRecDepth 100000 in
set_option maxHeartbeats 20000000 in
theorem rmay_any (s n b sl t ce ma st ch : Int) (w : World) :
    Calls Try.prog 26 #[.agg (confC s n b sl t ce ma st ch)] w fun e w' => e = .returned (.bool (mayP s b sl t ce ma st ch)) ∧ Below w.heap.size w w' := by
  obtain ⟨W, hW⟩ : ∃ W, W = w.alloc (Obj.cells (confC s n b sl t ce ma st ch) 23) := ⟨_, rfl⟩
  have K : Blk W w.heap.size 23 (confC s n b sl t ce ma st ch) := by rw [hW]; exact Blk.made w _ _
  have hb : Below w.heap.size w W := by rw [hW]; exact (Below.refl _ w).alloc (Nat.le_refl _) _
  have c0 : W.cell? ⟨w.heap.size, 0, none⟩ = some (.int .i64 s) := K.cell 0
  have c2 : W.cell? ⟨w.heap.size, 2, none⟩ = some (.int .i64 b) := K.cell 2
  have c3 : W.cell? ⟨w.heap.size, 3, none⟩ = some (.int .i64 sl) := K.cell 3
  have c4 : W.cell? ⟨w.heap.size, 4, none⟩ = some (.int .i64 t) := K.cell 4
  have c5 : W.cell? ⟨w.heap.size, 5, none⟩ = some (.int .i64 ce) := K.cell 5
  have c6 : W.cell? ⟨w.heap.size, 6, none⟩ = some (.int .i64 ma) := K.cell 6
  have c7 : W.cell? ⟨w.heap.size, 7, none⟩ = some (.int .i64 st) := K.cell 7
  have c8 : W.cell? ⟨w.heap.size, 8, none⟩ = some (.int .i64 ch) := K.cell 8
  unfold confC at hW ⊢
  have HW := Lib.hid hW
  have HB := Lib.hid hb
  clear hW hb K
  obtain ⟨i1, h1⟩ : ∃ i, inP s 1 8 = i := ⟨_, rfl⟩
  obtain ⟨i2, h2⟩ : ∃ i, inP sl 1 8 = i := ⟨_, rfl⟩
  obtain ⟨i3, h3⟩ : ∃ i, inP t 1 64 = i := ⟨_, rfl⟩
  obtain ⟨i4, h4⟩ : ∃ i, inP ce 0 16 = i := ⟨_, rfl⟩
  obtain ⟨i5, h5⟩ : ∃ i, inP ma 0 8 = i := ⟨_, rfl⟩
  obtain ⟨i6, h6⟩ : ∃ i, inP st 0 8 = i := ⟨_, rfl⟩
  obtain ⟨i7, h7⟩ : ∃ i, inP ch 0 8 = i := ⟨_, rfl⟩
  have HM : Hid (mayP s b sl t ce ma st ch = (powB b 7 && (i1 && (i2 && (i3 && (i4 && (i5 && (i6 && i7)))))))) := Lib.hid (by unfold mayP; rw [h1, h2, h3, h4, h5, h6, h7])
  have I1 := Lib.hid fun w => h1 ▸ rin_any s 1 8 w
  have I2 := Lib.hid fun w => h2 ▸ rin_any sl 1 8 w
  have I3 := Lib.hid fun w => h3 ▸ rin_any t 1 64 w
  have I4 := Lib.hid fun w => h4 ▸ rin_any ce 0 16 w
  have I5 := Lib.hid fun w => h5 ▸ rin_any ma 0 8 w
  have I6 := Lib.hid fun w => h6 ▸ rin_any st 0 8 w
  have I7 := Lib.hid fun w => h7 ▸ rin_any ch 0 8 w
  clear h1 h2 h3 h4 h5 h6 h7
  obtain ⟨R, hR⟩ : ∃ R, mayP s b sl t ce ma st ch = R := ⟨_, rfl⟩
  rw [hR] at HM
  rw [hR]
  clear hR
  go_enter Try.func26, Try.ntmps26
  go_wp2_with fail
  rw [← HW.out]
  go_loop [3, 4] (fun p i => ∃ k : Nat, k ≤ 7 ∧ i = .int .i64 (2 ^ k) ∧ p = .bool (powB b k)) (fun _ i => 128 - (intOf i).toNat)
  case atStart => exact ⟨0, by omega, rfl, rfl⟩
  case round =>
    obtain ⟨k, hk, rfl, rfl⟩ := hrel
    rcases (show k = 0 ∨ k = 1 ∨ k = 2 ∨ k = 3 ∨ k = 4 ∨ k = 5 ∨ k = 6 ∨ k = 7 by omega) with rfl | rfl | rfl | rfl | rfl | rfl | rfl | rfl
    · have hs : powB b 1 = (powB b 0 || (b == 1)) := rfl
      obtain ⟨P, hP⟩ : ∃ P, powB b 0 = P := ⟨_, rfl⟩
      rw [hP] at hs ⊢
      have HS := Lib.hid hs
      clear hs hP
      rw [show (2 : Int) ^ 0 = 1 from rfl]
      cases P
      all_goals
        go_wp2_with fail
        go_round
        case rel => exact ⟨1, by omega, rfl, by rw [HS.out]; rfl⟩
        case measure => simp [intOf]
    · have hs : powB b 2 = (powB b 1 || (b == 2)) := rfl
      obtain ⟨P, hP⟩ : ∃ P, powB b 1 = P := ⟨_, rfl⟩
      rw [hP] at hs ⊢
      have HS := Lib.hid hs
      clear hs hP
      rw [show (2 : Int) ^ 1 = 2 from rfl]
      cases P
      all_goals
        go_wp2_with fail
        go_round
        case rel => exact ⟨2, by omega, rfl, by rw [HS.out]; rfl⟩
        case measure => simp [intOf]
    · have hs : powB b 3 = (powB b 2 || (b == 4)) := rfl
      obtain ⟨P, hP⟩ : ∃ P, powB b 2 = P := ⟨_, rfl⟩
      rw [hP] at hs ⊢
      have HS := Lib.hid hs
      clear hs hP
      rw [show (2 : Int) ^ 2 = 4 from rfl]
      cases P
      all_goals
        go_wp2_with fail
        go_round
        case rel => exact ⟨3, by omega, rfl, by rw [HS.out]; rfl⟩
        case measure => simp [intOf]
    · have hs : powB b 4 = (powB b 3 || (b == 8)) := rfl
      obtain ⟨P, hP⟩ : ∃ P, powB b 3 = P := ⟨_, rfl⟩
      rw [hP] at hs ⊢
      have HS := Lib.hid hs
      clear hs hP
      rw [show (2 : Int) ^ 3 = 8 from rfl]
      cases P
      all_goals
        go_wp2_with fail
        go_round
        case rel => exact ⟨4, by omega, rfl, by rw [HS.out]; rfl⟩
        case measure => simp [intOf]
    · have hs : powB b 5 = (powB b 4 || (b == 16)) := rfl
      obtain ⟨P, hP⟩ : ∃ P, powB b 4 = P := ⟨_, rfl⟩
      rw [hP] at hs ⊢
      have HS := Lib.hid hs
      clear hs hP
      rw [show (2 : Int) ^ 4 = 16 from rfl]
      cases P
      all_goals
        go_wp2_with fail
        go_round
        case rel => exact ⟨5, by omega, rfl, by rw [HS.out]; rfl⟩
        case measure => simp [intOf]
    · have hs : powB b 6 = (powB b 5 || (b == 32)) := rfl
      obtain ⟨P, hP⟩ : ∃ P, powB b 5 = P := ⟨_, rfl⟩
      rw [hP] at hs ⊢
      have HS := Lib.hid hs
      clear hs hP
      rw [show (2 : Int) ^ 5 = 32 from rfl]
      cases P
      all_goals
        go_wp2_with fail
        go_round
        case rel => exact ⟨6, by omega, rfl, by rw [HS.out]; rfl⟩
        case measure => simp [intOf]
    · have hs : powB b 7 = (powB b 6 || (b == 64)) := rfl
      obtain ⟨P, hP⟩ : ∃ P, powB b 6 = P := ⟨_, rfl⟩
      rw [hP] at hs ⊢
      have HS := Lib.hid hs
      clear hs hP
      rw [show (2 : Int) ^ 6 = 64 from rfl]
      cases P
      all_goals
        go_wp2_with fail
        go_round
        case rel => exact ⟨7, by omega, rfl, by rw [HS.out]; rfl⟩
        case measure => simp [intOf]
    · obtain ⟨P, hP⟩ : ∃ P, powB b 7 = P := ⟨_, rfl⟩
      rw [hP] at HM ⊢
      clear hP
      rw [show (2 : Int) ^ 7 = 128 from rfl]
      cases P
      · have HR : Hid (R = false) := Lib.hid (by rw [HM.out]; rfl)
        go_wp2_with fail
        go_ret
        exact ⟨by rw [HR.out]; rfl, HB.out⟩
      go_wp2_with fail
      refine (I1.out _).mono ?_
      rintro e w' ⟨rfl, rfl⟩
      cases i1
      · have HR : Hid (R = false) := Lib.hid (by rw [HM.out]; simp)
        go_wp2_with fail
        go_ret
        exact ⟨by rw [HR.out]; rfl, HB.out⟩
      go_wp2_with fail
      refine (I2.out _).mono ?_
      rintro e w' ⟨rfl, rfl⟩
      cases i2
      · have HR : Hid (R = false) := Lib.hid (by rw [HM.out]; simp)
        go_wp2_with fail
        go_ret
        exact ⟨by rw [HR.out]; rfl, HB.out⟩
      go_wp2_with fail
      refine (I3.out _).mono ?_
      rintro e w' ⟨rfl, rfl⟩
      cases i3
      · have HR : Hid (R = false) := Lib.hid (by rw [HM.out]; simp)
        go_wp2_with fail
        go_ret
        exact ⟨by rw [HR.out]; rfl, HB.out⟩
      go_wp2_with fail
      refine (I4.out _).mono ?_
      rintro e w' ⟨rfl, rfl⟩
      cases i4
      · have HR : Hid (R = false) := Lib.hid (by rw [HM.out]; simp)
        go_wp2_with fail
        go_ret
        exact ⟨by rw [HR.out]; rfl, HB.out⟩
      go_wp2_with fail
      refine (I5.out _).mono ?_
      rintro e w' ⟨rfl, rfl⟩
      cases i5
      · have HR : Hid (R = false) := Lib.hid (by rw [HM.out]; simp)
        go_wp2_with fail
        go_ret
        exact ⟨by rw [HR.out]; rfl, HB.out⟩
      go_wp2_with fail
      refine (I6.out _).mono ?_
      rintro e w' ⟨rfl, rfl⟩
      cases i6
      · have HR : Hid (R = false) := Lib.hid (by rw [HM.out]; simp)
        go_wp2_with fail
        go_ret
        exact ⟨by rw [HR.out]; rfl, HB.out⟩
      go_wp2_with fail
      refine (I7.out _).mono ?_
      rintro e w' ⟨rfl, rfl⟩
      go_wp2_with fail
      go_ret
      exact ⟨by rw [HM.out]; rfl, HB.out⟩
end Go.Proofs.Ytbaeckehchpfaaa
