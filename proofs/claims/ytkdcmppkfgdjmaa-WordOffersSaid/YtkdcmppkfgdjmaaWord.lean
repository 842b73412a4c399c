/-
  WORD: the contracts of package word's small helpers (low, part), over this seat's translation.
-/
import Derived.Test.YtkdcmppkfgdjmaaRows
import Derived.Test.YtkdcmppkfgdjmaaBits
import Derived.WalkKit
import Derived.ProofKit
import Derived.OpenShut
import Derived.Lib.Hide
namespace Go.Proofs.Ytkdcmppkfgdjmaa
open Go.ChangeShapes Go.WideShapes Go.ChangeAt Go.RowKit

set_option maxHeartbeats 400000 in
theorem low_any (n : Int) (b : Nat) (hb : b ≤ 62) (h1 : -9223372036854775808 ≤ n) (h2 : n ≤ 9223372036854775807) (w : World) :
    Calls Try.prog 27 #[.int .i64 n, .int .i64 (b : Int)] w fun e w' => e = .returned (.int .i64 (n % 2 ^ b)) ∧ w = w' := by
  have hm := and_mask n b hb
  have hp := wrap_pow b hb
  have H := Lib.hid hm
  have H2 := Lib.hid hp
  clear hm hp
  go_enter Try.func27, Try.ntmps27
  go_wp2
  go_ret
  exact ⟨by rw [H2.out, H.out]; rfl, rfl⟩


/-- where field k of a row begins -/
def atTo (b : Nat → Nat) : Nat → Nat
  | 0 => 0
  | k + 1 => atTo b k + b k
/-- the first k fields, laid -/
def layTo (v : Nat → Int) (b : Nat → Nat) : Nat → Int
  | 0 => 0
  | k + 1 => layTo v b k + v k % 2 ^ b k * 2 ^ atTo b k

theorem atTo_mono (b : Nat → Nat) (k m : Nat) (h : k ≤ m) : atTo b k ≤ atTo b m := by
  induction m with
  | zero => obtain rfl : k = 0 := by omega
            exact Nat.le_refl _
  | succ m ih =>
    by_cases e : k = m + 1
    · subst e; exact Nat.le_refl _
    · have := ih (by omega); simp only [atTo]; omega

theorem layTo_bd (v : Nat → Int) (b : Nat → Nat) (k : Nat) : 0 ≤ layTo v b k ∧ layTo v b k < 2 ^ atTo b k := by
  induction k with
  | zero => simp [layTo, atTo]
  | succ k ih =>
    obtain ⟨h1, h2⟩ := ih
    simp only [layTo, atTo]
    have hm := mod_bd (v k) (b k)
    have hp := pow_pos2 (atTo b k)
    rw [Int.pow_add]
    generalize v k % 2 ^ b k = x at *
    generalize (2 : Int) ^ b k = q at *
    generalize (2 : Int) ^ atTo b k = p at *
    have g1 : 0 ≤ x * p := Int.mul_nonneg hm.1 (by omega)
    have g2 : (x + 1) * p ≤ q * p := Int.mul_le_mul_of_nonneg_right (by omega) (by omega)
    have g3 : (x + 1) * p = x * p + p := by rw [Int.add_mul]; simp
    have g4 : q * p = p * q := Int.mul_comm _ _
    constructor <;> omega

set_option maxHeartbeats 1000000 in
theorem lay_any (v : Nat → Int) (b : Nat → Nat) (len blk off cap : Nat) (w : World) (hblk : blk < w.heap.size) (hl : len ≤ 100) (hb : atTo b len ≤ 62)
    (hr : ∀ k, k < len → -9223372036854775808 ≤ v k ∧ v k ≤ 9223372036854775807)
    (hc1 : ∀ k, k < len → w.cell? ⟨blk, off + k * 2, none⟩ = some (.int .i64 (v k)))
    (hc2 : ∀ k, k < len → w.cell? ⟨blk, off + k * 2 + 1, none⟩ = some (.int .i64 (b k))) :
    Calls Try.prog 24 #[.slice (some ⟨blk, off, none⟩) len cap] w fun e w' => e = .returned (.int .i64 (layTo v b len)) ∧ Below w.heap.size w w' := by
  go_enter Try.func24, Try.ntmps24
  go_wp2
  go_loopw [3, 4, 9] (fun n a i wr => ∃ k : Nat, k ≤ len ∧ i = .int .i64 k ∧ n = .int .i64 (layTo v b k) ∧ a = .int .i64 (atTo b k : Nat) ∧ Below w.heap.size w wr)
    (fun _ _ i _ => len - (intOf i).toNat)
  case atStart => exact ⟨0, Nat.zero_le _, rfl, rfl, rfl, Below.refl _ _⟩
  case round =>
    obtain ⟨k, hk, rfl, rfl, rfl, hbel⟩ := hrel
    by_cases hlt : k < len
    · have c1 : wr.cell? ⟨blk, off + k * 2, none⟩ = some (.int .i64 (v k)) := by rw [← hc1 k hlt]; exact hbel.cell (p := ⟨blk, _, none⟩) hblk
      have c2 : wr.cell? ⟨blk, off + k * 2 + 1, none⟩ = some (.int .i64 (b k)) := by rw [← hc2 k hlt]; exact hbel.cell (p := ⟨blk, _, none⟩) hblk
      have hat : atTo b k + b k ≤ 62 := by have := atTo_mono b (k + 1) len (by omega); simp only [atTo] at this; omega
      have hv := hr k hlt
      have hbd := layTo_bd v b k
      have hm := mod_bd (v k) (b k)
      have hpow := pow_le62 (atTo b k + b k) hat
      have hbd2 := layTo_bd v b (k + 1)
      simp only [layTo, atTo] at hbd2
      have hmul : 0 ≤ v k % 2 ^ b k * 2 ^ atTo b k := Int.mul_nonneg hm.1 (by have := pow_pos2 (atTo b k); omega)
      have hj := or_join (layTo v b k) (v k % 2 ^ b k) (atTo b k) hbd.1 hbd.2 hm.1 (by omega)
      have hw := wrap64_small (v k % 2 ^ b k * 2 ^ atTo b k) (by omega) (by omega)
      have HW := Lib.hid hw
      have HJ := Lib.hid hj
      have hs : layTo v b (k + 1) = layTo v b k + v k % 2 ^ b k * 2 ^ atTo b k := rfl
      have HS := Lib.hid hs
      have hs2 : atTo b (k + 1) = atTo b k + b k := rfl
      have HS2 := Lib.hid hs2
      clear hj hw hs hs2 hm hbd hmul hbd2 hpow hr hc1 hc2
      go_wp2_with fail
      refine (low_any _ _ (by omega) hv.1 hv.2 _).mono ?_
      rintro e w' ⟨rfl, rfl⟩
      go_wp2_with fail
      rw [HW.out, HJ.out, ← HS.out]
      go_roundw
      case rel => exact ⟨k + 1, by omega, by go_num, rfl, by rw [HS2.out]; go_num, hbel.alloc (by have := hbel.size; omega) _⟩
      case measure => simp [intOf]; omega
    · go_wp2
      obtain rfl : k = len := by omega
      go_ret
      exact ⟨rfl, hbel⟩


set_option maxHeartbeats 400000 in
theorem part_nil (n : Int) (b : Nat) (hb : b ≤ 62) (h1 : -9223372036854775808 ≤ n) (h2 : n ≤ 9223372036854775807) (w : World) :
    Calls Try.prog 26 #[.int .i64 n, .int .i64 (b : Int), .slice none 0 0] w fun e w' => e = .returned (.int .i64 (n % 2 ^ b)) ∧ w = w' := by
  go_enter Try.func26, Try.ntmps26
  go_wp2
  go_loop [0, 11] (fun m i => m = .int .i64 n ∧ i = .int .i64 0) (fun _ _ => 0)
  case atStart => exact ⟨rfl, rfl⟩
  case round =>
    obtain ⟨rfl, rfl⟩ := hrel
    go_wp2_with fail
    refine (low_any _ _ hb h1 h2 _).mono ?_
    rintro e w' ⟨rfl, rfl⟩
    go_wp2_with fail
    go_ret
    exact ⟨rfl, rfl⟩

theorem div_pow_pow (n : Int) (a b : Nat) : n / 2 ^ a / 2 ^ b = n / 2 ^ (a + b) := by
  rw [Int.ediv_ediv_of_nonneg (by have := pow_pos2 a; omega), Int.pow_add]
theorem div_pow_bd (n : Int) (a : Nat) (h1 : -9223372036854775808 ≤ n) (h2 : n ≤ 9223372036854775807) : -9223372036854775808 ≤ n / 2 ^ a ∧ n / 2 ^ a ≤ 9223372036854775807 := by
  have hp := pow_pos2 a
  constructor
  · exact Int.le_trans (by omega) ((Int.le_ediv_iff_mul_le (by omega)).2 (show -9223372036854775808 * 2 ^ a ≤ n from by
      have : (-9223372036854775808 : Int) * 2 ^ a ≤ -9223372036854775808 * 1 := Int.mul_le_mul_of_nonpos_left (by decide) hp
      omega))
  · have := Int.ediv_le_ediv (c := 2 ^ a) (by omega) h2
    have h3 : (9223372036854775807 : Int) / 2 ^ a ≤ 9223372036854775807 := Int.ediv_le_self _ (by decide)
    omega

set_option maxHeartbeats 400000 in
theorem part_any (n : Int) (b : Nat) (s : Nat → Nat) (len blk off cap : Nat) (hb : b ≤ 62) (h1 : -9223372036854775808 ≤ n) (h2 : n ≤ 9223372036854775807) (w : World) (hl : len ≤ 100)
    (hs : ∀ k, k < len → s k ≤ 62)
    (hc : ∀ k, k < len → w.cell? ⟨blk, off + k, none⟩ = some (.int .i64 (s k))) :
    Calls Try.prog 26 #[.int .i64 n, .int .i64 (b : Int), .slice (some ⟨blk, off, none⟩) len cap] w fun e w' => e = .returned (.int .i64 (n / 2 ^ atTo s len % 2 ^ b)) ∧ w = w' := by
  go_enter Try.func26, Try.ntmps26
  go_wp2
  go_loop [0, 11] (fun m i => ∃ k : Nat, k ≤ len ∧ m = .int .i64 (n / 2 ^ atTo s k) ∧ i = .int .i64 k) (fun _ i => len - (intOf i).toNat)
  case atStart => exact ⟨0, Nat.zero_le _, by simp [atTo], rfl⟩
  case round =>
    obtain ⟨k, hk, rfl, rfl⟩ := hrel
    have hbd := div_pow_bd n (atTo s k) h1 h2
    by_cases hlt : k < len
    · have c1 := hc k hlt
      have hd := div_pow_pow n (atTo s k) (s k)
      have HD := Lib.hid hd
      have hsk := hs k hlt
      clear hd hc hs
      go_wp2_with fail
      rw [HD.out]
      go_round
      case rel => exact ⟨k + 1, by omega, rfl, by go_num⟩
      case measure => simp [intOf]; omega
    · obtain rfl : k = len := by omega
      clear hc hs
      go_wp2_with fail
      refine (low_any _ _ hb hbd.1 hbd.2 _).mono ?_
      rintro e w' ⟨rfl, rfl⟩
      go_wp2_with fail
      go_ret
      exact ⟨rfl, rfl⟩

set_option maxHeartbeats 400000 in
theorem lay3 (a b c : Int) (x y z : Nat) (blk : Nat) (T : TypeId) (w : World) (hblk : blk = w.heap.size) (hxyz : x + y + z ≤ 62)
    (ha : -9223372036854775808 ≤ a ∧ a ≤ 9223372036854775807) (hb : -9223372036854775808 ≤ b ∧ b ≤ 9223372036854775807) (hc : -9223372036854775808 ≤ c ∧ c ≤ 9223372036854775807) :
    Calls Try.prog 24 #[.slice (some ⟨blk, 0, none⟩) 3 3] (w.alloc (.cells #[.int .i64 a, .int .i64 (x : Int), .int .i64 b, .int .i64 (y : Int), .int .i64 c, .int .i64 (z : Int)] T))
      fun e w' => e = .returned (.int .i64 (a % 2 ^ x + b % 2 ^ y * 2 ^ x + c % 2 ^ z * 2 ^ (x + y))) ∧ Below w.heap.size w w' := by
  subst hblk
  refine (lay_any (fun k => if k = 0 then a else if k = 1 then b else c) (fun k => if k = 0 then x else if k = 1 then y else z) 3 w.heap.size 0 3 _ (by simp [go_sem]) (by omega) (by simp [atTo]; omega) ?_ ?_ ?_).mono ?_
  · intro k hk; rcases k with _ | _ | _ | k <;> first | simpa | omega
  · intro k hk; rcases k with _ | _ | _ | k <;> first | (simp [go_sem]; done) | omega
  · intro k hk; rcases k with _ | _ | _ | k <;> first | (simp [go_sem]; done) | omega
  · rintro e w' ⟨rfl, hb⟩
    refine ⟨by simp [layTo, atTo], ?_⟩
    exact ((Below.refl w.heap.size w).alloc (Nat.le_refl _) _).trans (hb.mono (by simp [go_sem]))

theorem part1 (n : Int) (b x : Nat) (blk : Nat) (T : TypeId) (w : World) (hblk : blk = w.heap.size) (hb : b ≤ 62) (hx : x ≤ 62)
    (hn : -9223372036854775808 ≤ n ∧ n ≤ 9223372036854775807) :
    Calls Try.prog 26 #[.int .i64 n, .int .i64 (b : Int), .slice (some ⟨blk, 0, none⟩) 1 1] (w.alloc (.cells #[.int .i64 (x : Int)] T))
      fun e w' => e = .returned (.int .i64 (n / 2 ^ x % 2 ^ b)) ∧ (w.alloc (.cells #[.int .i64 (x : Int)] T)) = w' := by
  subst hblk
  refine (part_any n b (fun _ => x) 1 w.heap.size 0 1 hb hn.1 hn.2 _ (by omega) (fun _ _ => hx) ?_).mono ?_
  · intro k hk; rcases k with _ | k <;> first | (simp [go_sem]; done) | omega
  · rintro e w' ⟨rfl, rfl⟩
    exact ⟨by simp [atTo], rfl⟩

theorem part2 (n : Int) (b x y : Nat) (blk : Nat) (T : TypeId) (w : World) (hblk : blk = w.heap.size) (hb : b ≤ 62) (hx : x ≤ 62) (hy : y ≤ 62)
    (hn : -9223372036854775808 ≤ n ∧ n ≤ 9223372036854775807) :
    Calls Try.prog 26 #[.int .i64 n, .int .i64 (b : Int), .slice (some ⟨blk, 0, none⟩) 2 2] (w.alloc (.cells #[.int .i64 (x : Int), .int .i64 (y : Int)] T))
      fun e w' => e = .returned (.int .i64 (n / 2 ^ (x + y) % 2 ^ b)) ∧ (w.alloc (.cells #[.int .i64 (x : Int), .int .i64 (y : Int)] T)) = w' := by
  subst hblk
  refine (part_any n b (fun k => if k = 0 then x else y) 2 w.heap.size 0 2 hb hn.1 hn.2 _ (by omega) (fun k _ => by show (if k = 0 then x else y) ≤ 62; split <;> omega) ?_).mono ?_
  · intro k hk; rcases k with _ | _ | k <;> first | (simp [go_sem]; done) | omega
  · rintro e w' ⟨rfl, rfl⟩
    exact ⟨by simp [atTo], rfl⟩


end Go.Proofs.Ytkdcmppkfgdjmaa
