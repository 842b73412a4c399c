/-
  LEX: the document's number.
-/
import Derived.Test.YtplndghcileghaaDoorRows
import Derived.ProofKit
import Derived.Test.YtplndghcileghaaDoorLexU
namespace Go.Proofs.YtplndghcileghaaDoor
open Go.ChangeShapes Go.WideShapes Go.ChangeAt Go.RowKit

theorem numV_snoc (l : List UInt8) (c : UInt8) : numV (l ++ [c]) = numV l * 10 + (c.toNat - 48) := by
  unfold numV; rw [List.foldl_append]; rfl
theorem numV_lt : ∀ (n : Nat) (l : List UInt8), l.length = n → (∀ c ∈ l, digitU c = true) → numV l < 10 ^ n
  | 0, l, h, _ => by rw [List.length_eq_zero_iff.1 h]; decide
  | n + 1, l, h, hd => by
    have hne : l ≠ [] := by intro e; rw [e] at h; cases h
    have e := List.dropLast_concat_getLast hne
    have ih := numV_lt n l.dropLast (by rw [List.length_dropLast, h]; rfl) (fun c hc => hd c (List.dropLast_subset l hc))
    have hl := hd _ (List.getLast_mem hne)
    unfold digitU digitB at hl
    simp at hl
    rw [← e, numV_snoc, Nat.pow_succ]
    omega

/-- may digits be a number, but for what stands behind? -/
def numGood (l : List UInt8) : Bool := decide (l.length ≤ 10) && !(decide (1 < l.length) && l.head? == some 48) && decide (numV l < 4294967296)
theorem numOk_good (w r : List UInt8) : numOk w r = (numGood w && behindP r) := rfl
def numE (l : List UInt8) : Int := if numGood l then (numV l : Int) else -1

set_option maxHeartbeats 1000000 in
theorem number_any (s : ByteArray) (hs : 1 ≤ s.size) (hs2 : s.size ≤ 4000) (hd : ∀ c ∈ s.data.toList, digitU c = true) (w : World) :
    Calls Tryd.prog 23 #[.string s] w fun e w' => e = .returned (.int .i64 (numE s.data.toList)) ∧ w' = w := by
  have hlen : s.data.toList.length = s.size := by rw [Array.length_toList]; rfl
  have h0 : 0 < s.size := hs
  obtain ⟨c, hc⟩ : ∃ c : Nat, (s[0]'h0).toNat = c := ⟨_, rfl⟩
  have hhead : s.data.toList.head? = some (s[0]'h0) := by rw [List.head?_eq_getElem?, byte_at s 0 h0]
  have hh : (s.data.toList.head? == some 48) = decide (c = 48) := by
    rw [hhead, ← hc]
    have h48 : (48 : UInt8).toNat = 48 := rfl
    rw [Bool.eq_iff_iff]
    simp [← UInt8.toNat_inj]
  have HD := Lib.hid hd
  have HH := Lib.hid hh
  have HL := Lib.hid hlen
  by_cases h10 : 10 < s.size
  · have HE : Hid (numE s.data.toList = -1) := by
      apply Lib.hid
      unfold numE numGood
      rw [HL.out, show decide (s.size ≤ 10) = false from by simpa using h10]; rfl
    clear hc hd hh hlen hhead
    go_enter Tryd.func23, Tryd.ntmps23
    go_wp2_with fail
    go_ret
    exact ⟨by rw [HE.out]; rfl, rfl⟩
  · have hz10 : decide (10 < (s.size : Int)) = false := by simp; omega
    by_cases hz : c = 48 ∧ 1 < s.size
    · obtain ⟨hz1, hz2⟩ := hz
      have HE : Hid (numE s.data.toList = -1) := by
        apply Lib.hid
        unfold numE numGood
        rw [HL.out, HH.out, hz1, show decide (1 < s.size) = true from by simpa using hz2]; simp
      have hbyte : (((s[0]'h0).toNat : Int) == 48) = true := by rw [hc, hz1]; rfl
      have hz2' : decide (1 < (s.size : Int)) = true := by simp; omega
      clear hc hd hh hlen hhead
      go_enter Tryd.func23, Tryd.ntmps23
      go_wp2_with fail
      go_ret
      exact ⟨by rw [HE.out]; rfl, rfl⟩
    · have hg : numGood s.data.toList = decide (numV s.data.toList < 4294967296) := by
        unfold numGood
        rw [HL.out, HH.out, show decide (s.size ≤ 10) = true from by simp; omega]
        have : (decide (1 < s.size) && decide (c = 48)) = false := by
          rw [← Bool.decide_and]; simp only [decide_eq_false_iff_not]; omega
        rw [this]; simp
      have HG := Lib.hid hg
      clear hg
      have hbd : ∀ k, k ≤ 10 → numV (s.data.toList.take k) ≤ 9999999999 := by
        intro k hk
        have h1 := numV_lt (min k s.size) (s.data.toList.take k) (by rw [List.length_take, HL.out]) (fun c hc => HD.out c (List.mem_of_mem_take hc))
        have h2 : (10 : Nat) ^ (min k s.size) ≤ 10 ^ 10 := Nat.pow_le_pow_right (by decide) (by omega)
        omega
      have HB := Lib.hid hbd
      clear hbd
      have hstep : ∀ k, (h : k < s.size) → numV (s.data.toList.take (k + 1)) = numV (s.data.toList.take k) * 10 + ((s[k]'h).toNat - 48) ∧ 48 ≤ (s[k]'h).toNat ∧ (s[k]'h).toNat ≤ 57 := by
        intro k h
        have hb := byte_at s k h
        obtain ⟨hl, he⟩ := List.getElem?_eq_some_iff.1 hb
        refine ⟨?_, ?_⟩
        · rw [List.take_succ_eq_append_getElem hl, numV_snoc, he]
        · have := HD.out (s[k]'h) (by rw [← he]; exact List.getElem_mem _)
          unfold digitU digitB at this
          simp at this
          omega
      have HS := Lib.hid hstep
      clear hstep
      have hways : ((((s[0]'h0).toNat : Int) == 48) = true ∧ decide (1 < (s.size : Int)) = false) ∨ (((s[0]'h0).toNat : Int) == 48) = false := by
        rw [hc]
        by_cases h : c = 48
        · left; exact ⟨by rw [h]; rfl, by simp; omega⟩
        · right; simp; omega
      have hle : s.size ≤ 10 := by omega
      clear hc hd hh hlen hhead h10 hz
      rcases hways with ⟨hbyte, hone⟩ | hbyte
      all_goals
        go_enter Tryd.func23, Tryd.ntmps23
        go_wp2_with fail
        go_loop [3, 4] (fun n i => ∃ k : Nat, k ≤ s.size ∧ i = .int .i64 k ∧ n = .int .i64 (numV (s.data.toList.take k) : Nat)) (fun _ i => s.size - (intOf i).toNat)
        case atStart => exact ⟨0, Nat.zero_le _, rfl, rfl⟩
        case round =>
          obtain ⟨k, hk, rfl, rfl⟩ := hrel
          by_cases hlt : k < s.size
          · obtain ⟨g1, g2, g3⟩ := HS.out k hlt
            have hb1 := HB.out k (by omega)
            have HX := Lib.hid g1
            clear g1
            obtain ⟨v, hv⟩ : ∃ v, numV (s.data.toList.take k) = v := ⟨_, rfl⟩
            have HV := Lib.hid hv
            rw [hv] at hb1 ⊢
            clear hv
            go_wp2_with fail
            go_round
            case rel => exact ⟨k + 1, by omega, by go_num, by rw [HX.out, HV.out]; go_num⟩
            case measure => simp [intOf]; omega
          · obtain rfl : k = s.size := by omega
            have hall : s.data.toList.take s.size = s.data.toList := List.take_of_length_le (by rw [HL.out]; exact Nat.le_refl _)
            rw [hall]
            have hb1 : numV s.data.toList ≤ 9999999999 := by have := HB.out s.size hle; rwa [hall] at this
            obtain ⟨v, hv⟩ : ∃ v, numV s.data.toList = v := ⟨_, rfl⟩
            have hE : numE s.data.toList = if v < 4294967296 then (v : Int) else -1 := by
              unfold numE; rw [HG.out, hv]
              by_cases h : v < 4294967296
              · simp [h]
              · simp [h]
            rw [hv] at hb1 ⊢
            have HE := Lib.hid hE
            clear hE hv hall
            clear hb1
            obtain ⟨V, hV⟩ : ∃ V : Int, (v : Int) = V := ⟨_, rfl⟩
            have HV := Lib.hid hV
            rw [hV]
            by_cases hlt2 : v < 4294967296
            · have h2 : decide (4294967296 ≤ V) = false := by rw [← hV]; exact decide_eq_false (by omega)
              have HL2 := Lib.hid hlt2
              clear hlt2 hV
              go_wp2_with fail
              go_ret
              exact ⟨by rw [HE.out, if_pos HL2.out, HV.out]; rfl, rfl⟩
            · have h2 : decide (4294967296 ≤ V) = true := by rw [← hV]; exact decide_eq_true (by omega)
              have HL2 := Lib.hid hlt2
              clear hlt2 hV
              go_wp2_with fail
              go_ret
              exact ⟨by rw [HE.out, if_neg HL2.out]; rfl, rfl⟩
end Go.Proofs.YtplndghcileghaaDoor
