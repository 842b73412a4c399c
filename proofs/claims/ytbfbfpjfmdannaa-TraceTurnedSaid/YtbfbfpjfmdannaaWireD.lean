/-
  WIRE: the contract of Get.
-/
import Derived.Test.YtbfbfpjfmdannaaWireC
namespace Go.Proofs.Ytbfbfpjfmdannaa
open Go.ChangeShapes Go.WideShapes Go.ChangeAt Go.RowKit Go.Lib

/-- the number that bytes begin with, from the i-th byte on -/
def getG : List Int → Nat → Option (Nat × Nat)
  | [], _ => none
  | b :: bs, i =>
    if 10 ≤ i then none
    else if 128 ≤ b then (getG bs (i + 1)).map fun r => ((b % 128).toNat + 128 * r.1, r.2 + 1)
    else if (0 < i ∧ b = 0) ∨ (i = 9 ∧ 1 < b) then none
    else some (b.toNat, 1)
def getF (bs : List Int) : Int × Nat × Int := match getG bs 0 with | some r => (zag r.1, r.2, 0) | none => (0, 0, 3)

theorem pow_shift (k : Nat) : (128 : Nat) ^ k = 2 ^ (7 * k) := by rw [Nat.pow_mul]
theorem pow_shift_le {k m : Nat} (h : k ≤ m) : (128 : Nat) ^ k ≤ 128 ^ m := Nat.pow_le_pow_right (by decide) h

theorem get_group (c : Int) (h : 0 ≤ c ∧ c ≤ 255) : IntKind.u64.wrap (bits .and .u8 c 127) = ((c.toNat % 128 : Nat) : Int) := by
  have := and127_u8 c.toNat (by omega)
  rw [show ((c.toNat : Nat) : Int) = c from by omega] at this
  rw [this, u64_wrap]; omega

theorem get_bound {k g lo : Nat} (hk : k < 10) (hg : g < 128) (h : k ≤ 8 ∨ g ≤ 1) (hlo : lo < 2 ^ (7 * k)) : lo + g * 2 ^ (7 * k) < 18446744073709551616 := by
  rcases h with h | h
  · have h1 : 2 ^ (7 * k) ≤ 2 ^ 56 := Nat.pow_le_pow_right (by decide) (by omega)
    have h2 : g * 2 ^ (7 * k) ≤ 127 * 2 ^ 56 := Nat.mul_le_mul (by omega) h1
    omega
  · have h1 : 2 ^ (7 * k) ≤ 2 ^ 63 := Nat.pow_le_pow_right (by decide) (by omega)
    have h2 : g * 2 ^ (7 * k) ≤ 1 * 2 ^ 63 := Nat.mul_le_mul h h1
    omega

theorem get_join {k lo : Nat} {c : Int} (hc : 0 ≤ c ∧ c ≤ 255) (hk : k < 10) (h : k ≤ 8 ∨ c.toNat % 128 ≤ 1) (hlo : lo < 2 ^ (7 * k)) :
    bits .or .u64 (lo : Int) (IntKind.u64.wrap (IntKind.u64.wrap (bits .and .u8 c 127) * 2 ^ (7 * k))) = ((lo + c.toNat % 128 * 2 ^ (7 * k) : Nat) : Int) := by
  rw [get_group c hc]
  have hb := get_bound hk (Nat.mod_lt _ (by omega)) h hlo
  rw [show IntKind.u64.wrap (((c.toNat % 128 : Nat) : Int) * 2 ^ (7 * k)) = ((c.toNat % 128 * 2 ^ (7 * k) : Nat) : Int) from by
    rw [u64_wrap, Int.natCast_mul, Int.natCast_pow]
    rw [Int.emod_eq_of_lt]
    · rfl
    · exact Int.mul_nonneg (by omega) (by have := pow_pos2 (7 * k); omega)
    · have h2 : ((c.toNat % 128 * 2 ^ (7 * k) : Nat) : Int) < 18446744073709551616 := by omega
      rw [Int.natCast_mul, Int.natCast_pow] at h2
      exact h2]
  exact or_join_u64 lo _ _ hlo hb

theorem get_any_or (x : Nat) (hx : x < 18446744073709551616) (z : Int) : ∃ y : Nat, bits .or .u64 (x : Int) (IntKind.u64.wrap z) = (y : Int) ∧ y < 18446744073709551616 := by
  rw [u64_wrap]
  refine ⟨x ||| (z % 18446744073709551616).toNat, ?_, Nat.or_lt_two_pow (n := 64) (by omega) (by omega)⟩
  rw [← or_u64 _ _ hx (by omega)]
  congr 1
  omega

theorem getG_nil (i : Nat) : getG [] i = none := rfl
theorem getG_over (bs : List Int) : getG bs 10 = none := by
  cases bs with
  | nil => rfl
  | cons b bs => simp [getG]
theorem getG_on {c : Int} {bs : List Int} {k : Nat} (hk : k < 10) (h : 128 ≤ c) : getG (c :: bs) k = (getG bs (k + 1)).map fun r => ((c % 128).toNat + 128 * r.1, r.2 + 1) := by
  simp only [getG]; rw [if_neg (by omega), if_pos h]
theorem getG_bad {c : Int} {bs : List Int} {k : Nat} (hk : k < 10) (h : c < 128) (hb : (0 < k ∧ c = 0) ∨ (k = 9 ∧ 1 < c)) : getG (c :: bs) k = none := by
  simp only [getG]; rw [if_neg (by omega), if_neg (by omega), if_pos hb]
theorem getG_end {c : Int} {bs : List Int} {k : Nat} (hk : k < 10) (h : c < 128) (hb : ¬ ((0 < k ∧ c = 0) ∨ (k = 9 ∧ 1 < c))) : getG (c :: bs) k = some (c.toNat, 1) := by
  simp only [getG]; rw [if_neg (by omega), if_neg (by omega), if_neg hb]

theorem drop_cons {bs : List Int} {k : Nat} {c : Int} (h : bs[k]? = some c) : bs.drop k = c :: bs.drop (k + 1) := by
  obtain ⟨h1, h2⟩ := List.getElem?_eq_some_iff.1 h
  rw [List.drop_eq_getElem_cons h1, h2]

theorem getF_some {bs : List Int} {u m : Nat} (h : getG bs 0 = some (u, m)) : getF bs = (zag u, m, 0) := by unfold getF; rw [h]
theorem getF_none {bs : List Int} (h : getG bs 0 = none) : getF bs = (0, 0, 3) := by unfold getF; rw [h]

def GetPost (w : World) (bs : List Int) (e : Ending) (w' : World) : Prop := e = .returned (.tuple #[.int .i64 (getF bs).1, .int .i64 ((getF bs).2.1 : Nat), .int .i64 (getF bs).2.2]) ∧ Below w.heap.size w w'

set_option maxHeartbeats 2000000 in
theorem Get_any (p : Option Addr) (bs : List Int) (cap : Nat) (w : World) (hx : Byts w p bs) (hl : bs.length ≤ 1000000) :
    Calls Try.prog 35 #[.slice p bs.length cap] w (GetPost w bs) := by
  by_cases hle : bs.length ≤ 10
  all_goals (
    have hle' := hle
    go_enter Try.func35, Try.ntmps35
    go_wp2_with fail
    go_loopw [5, 11] (fun u i wr => ∃ k : Nat, k ≤ min bs.length 10 ∧ i = .int .i64 k ∧ ∃ lo x : Nat, u = .int .u64 (x : Int) ∧ x < 18446744073709551616 ∧ lo < 128 ^ k ∧ (k ≤ 9 → x = lo) ∧ getG bs 0 = (getG (bs.drop k) k).map (fun r => (lo + 128 ^ k * r.1, r.2 + k)) ∧ Below w.heap.size w wr) (fun _ i _ => 10 - (intOf i).toNat)
    case atStart => exact ⟨0, Nat.zero_le _, rfl, 0, 0, rfl, by omega, by simp, fun _ => rfl, by simp, Below.refl _ _⟩
    case round =>
      obtain ⟨k, hk, rfl, lo, x, rfl, hx64, hlo, hxl, hg, hb⟩ := hrel
      by_cases hlt : k < min bs.length 10
      · obtain ⟨b1, o1, c, h1, _, c1, ec, hc⟩ := (hx.later hb).at_ k (by omega)
        subst h1
        have hbs : k < bs.length := by omega
        have hk10 : k < 10 := by omega
        have hdr := drop_cons ec
        rw [hdr] at hg
        unfold In8 at hc
        have hgr := get_group c hc
        have hlo2 : lo < 2 ^ (7 * k) := by rw [← pow_shift]; exact hlo
        obtain rfl : x = lo := hxl (by omega)
        by_cases hc1 : 128 ≤ c
        · obtain ⟨y, hy, hy64⟩ := get_any_or x hx64 (IntKind.u64.wrap (bits .and .u8 c 127) * 2 ^ (7 * k))
          have hyl : k ≤ 8 → y = x + c.toNat % 128 * 2 ^ (7 * k) := fun h => by
            have := get_join hc hk10 (.inl h) hlo2
            rw [hy] at this; omega
          rw [getG_on hk10 hc1] at hg
          have HY := Lib.hid hy
          have HYL := Lib.hid hyl
          have HG := Lib.hid hg
          have HLO := Lib.hid hlo2
          have HGR := Lib.hid hgr
          clear hy hyl hg hlo hlo2 hxl hgr ec hdr
          go_wp2_with fail
          go_roundw
          case rel =>
            refine ⟨k + 1, by omega, by go_num, x + c.toNat % 128 * 2 ^ (7 * k), y, by rw [HY.out], hy64, ?_, fun h => HYL.out (by omega), ?_, hb⟩
            · have h1 := HLO.out
              rw [Nat.pow_succ, pow_shift]
              have h2 : c.toNat % 128 * 2 ^ (7 * k) ≤ 127 * 2 ^ (7 * k) := Nat.mul_le_mul_right _ (by omega)
              omega
            · rw [HG.out, Option.map_map]
              congr 1
              funext r
              simp only [Function.comp, Nat.pow_succ, pow_shift, Prod.mk.injEq]
              refine ⟨?_, by omega⟩
              rw [show (c % 128).toNat = c.toNat % 128 from by omega, Nat.mul_add, Nat.mul_comm (2 ^ (7 * k)) (c.toNat % 128), Nat.mul_assoc (2 ^ (7 * k)) 128 r.1]
              omega
          case measure => simp [intOf]; omega
        · by_cases hbad : (0 < k ∧ c = 0) ∨ (k = 9 ∧ 1 < c)
          · rw [getG_bad hk10 (by omega) hbad] at hg
            have HF := Lib.hid (getF_none hg)
            have HBAD := Lib.hid hbad
            have HGR := Lib.hid hgr
            clear hg hlo hlo2 hxl hgr ec hdr hbad
            go_wp2_with fail
            all_goals first
              | (refine bodyPost_ret (v := .tuple #[.int .i64 0, .int .i64 0, .int .i64 3]) (by simp [results, Try.results35, go_sem]) rfl ?_
                 exact ⟨by rw [HF.out]; rfl, hb⟩)
              | (exfalso; have h1 := HGR.out; have h2 := HBAD.out; simp at *; omega)
          · rw [getG_end hk10 (by omega) hbad] at hg
            have hj := get_join hc hk10 (by omega) hlo2
            have hbd := get_bound hk10 (g := c.toNat % 128) (by omega) (by omega) hlo2
            simp only [Option.map_some] at hg
            rw [show c.toNat % 128 = c.toNat from by omega] at hj hbd
            rw [pow_shift, Nat.mul_comm] at hg
            have HF := Lib.hid (getF_some hg)
            have HBAD := Lib.hid hbad
            have HGR := Lib.hid hgr
            have HJ := Lib.hid hj
            have HBD := Lib.hid hbd
            clear hg hlo hlo2 hxl hgr ec hdr hbad hj hbd
            go_wp2_with fail
            all_goals first
              | (rw [HJ.out]
                 refine (back_any _ wr HBD.out).mono ?_
                 rintro e w2 ⟨rfl, rfl⟩
                 go_wp2_with fail
                 refine bodyPost_ret (v := .tuple #[.int .i64 (zag (x + c.toNat * 2 ^ (7 * k))), .int .i64 ((1 + k : Nat) : Int), .int .i64 0]) (by simp [results, Try.results35, go_sem] <;> omega) rfl ?_
                 exact ⟨by rw [HF.out], hb⟩)
              | (exfalso; have h1 := HGR.out; have h2 := HBAD.out; simp at *; omega)
      · have hkm : k = min bs.length 10 := by omega
        have hn : getG bs 0 = none := by
          rw [hg]
          by_cases h : bs.length ≤ 10
          · rw [show bs.drop k = [] from List.drop_eq_nil_of_le (by omega)]; rfl
          · rw [show k = 10 from by omega, getG_over]; rfl
        have HF := Lib.hid (getF_none hn)
        clear hn hg hlo hxl hkm
        first
          | (obtain rfl : k = bs.length := by omega
             go_wp2_with fail
             refine bodyPost_ret (v := .tuple #[.int .i64 0, .int .i64 0, .int .i64 3]) (by simp [results, Try.results35, go_sem]) rfl ?_
             exact ⟨by rw [HF.out]; rfl, hb⟩)
          | (obtain rfl : k = 10 := by omega
             go_wp2_with fail
             refine bodyPost_ret (v := .tuple #[.int .i64 0, .int .i64 0, .int .i64 3]) (by simp [results, Try.results35, go_sem]) rfl ?_
             exact ⟨by rw [HF.out]; rfl, hb⟩))

end Go.Proofs.Ytbfbfpjfmdannaa
