/-
  LEX: what 'first' tells, by the pure function.
-/
import Derived.Test.YtplndghcileghaaDoorRows
import Derived.ProofKit
import Derived.Test.YtplndghcileghaaDoorLexE
namespace Go.Proofs.YtplndghcileghaaDoor
open Go.ChangeShapes Go.WideShapes Go.ChangeAt Go.RowKit

theorem signLen_le (s : ByteArray) (hs : 1 ≤ s.size) : ∃ n : Nat, signLen s = (n : Int) ∧ n ≤ s.size := by
  unfold signLen
  by_cases h : Lib.hasPrefix s.data.toList [61, 61] = true
  · refine ⟨2, by rw [if_pos h]; rfl, ?_⟩
    have := List.IsPrefix.length_le (List.isPrefixOf_iff_prefix.1 h)
    rw [Array.length_toList] at this
    exact this
  · exact ⟨1, by rw [if_neg h]; rfl, hs⟩

theorem span_tw (P : Int → Bool) (s : ByteArray) : spanF P (strB s) = (s.data.toList.takeWhile (fun b => P (b.toNat : Int))).length := by
  unfold spanF strB
  rw [List.takeWhile_map, List.length_map]
  rfl
theorem ext_take (s : ByteArray) (n : Nat) : (s.extract 0 n).data.toList = s.data.toList.take n := by
  rw [ByteArray.data_extract, Array.toList_extract]
  simp [List.extract]
theorem ext_drop (s : ByteArray) (n : Nat) : (s.extract n s.size).data.toList = s.data.toList.drop n := by
  rw [ByteArray.data_extract, Array.toList_extract]
  simp [List.extract]
  rw [List.take_of_length_le]
  rw [List.length_drop, Array.length_toList]
  exact Nat.le_refl _
theorem size_len (s : ByteArray) : s.size = s.data.toList.length := by rw [Array.length_toList]; rfl
theorem head_of (s : ByteArray) (c0 : Nat) (hs : 0 < s.size) (hc : (s[0]'hs).toNat = c0) : ∃ c r, s.data.toList = c :: r ∧ c.toNat = c0 := by
  have h' : 0 < s.data.size := hs
  cases hl : s.data.toList with
  | nil => have := congrArg List.length hl; rw [Array.length_toList, List.length_nil] at this; omega
  | cons c r =>
    refine ⟨c, r, rfl, ?_⟩
    have h1 : s.data.toList[0]? = some c := by rw [hl]; rfl
    rw [Array.getElem?_toList, Array.getElem?_eq_getElem h'] at h1
    injection h1 with h1
    rw [← h1]; exact hc

/-- what 'first' answers -/
def firstE (s : ByteArray) : Value := match firstP s.data.toList with
  | none => .tuple #[.agg #[.int .i64 0, .string ⟨#[]⟩, .int .i64 0, .int .i64 0], .bool false]
  | some (k, n, v) => .tuple #[.agg #[.int .i64 k, .string (s.extract 0 n), .int .i64 v, .int .i64 0], .bool true]

variable {s : ByteArray} {c0 : Nat} (hs : 0 < s.size) (hc : (s[0]'hs).toNat = c0)
include hs hc
theorem firstE_name (hl : letterB (c0 : Int) = true) (n : Nat) (hn : n = spanF inNameB (strB s)) :
    firstE s = if decide ((n : Int) ≤ 12) = true then .tuple #[.agg #[.int .i64 1, .string (s.extract 0 n), .int .i64 0, .int .i64 0], .bool true] else .tuple #[.agg #[.int .i64 0, .string ⟨#[]⟩, .int .i64 0, .int .i64 0], .bool false] := by
  obtain ⟨c, r, hl2, hcc⟩ := head_of s c0 hs hc
  have h1 : letterU c = true := by unfold letterU; rw [hcc]; exact hl
  have h2 : n = ((c :: r).takeWhile inNameU).length := by rw [hn, span_tw, hl2]; rfl
  unfold firstE firstP
  simp only [hl2, h1, if_true, ← h2]
  by_cases h : n ≤ 12
  · rw [if_pos h, if_pos (by simp; omega)]
  · rw [if_neg h, if_neg (by simp; omega)]

theorem firstE_num (hl : letterB (c0 : Int) = false) (hd : digitB (c0 : Int) = true) (n : Nat) (hn : n = spanF digitB (strB s)) :
    firstE s = (if (!longB (s.extract 0 n) && decide ((numV (s.extract 0 n).data.toList : Int) < 4294967296) && behindB (s.extract n s.size)) = true then .tuple #[.agg #[.int .i64 2, .string (s.extract 0 n), .int .i64 (numV (s.extract 0 n).data.toList : Int), .int .i64 0], .bool true] else .tuple #[.agg #[.int .i64 0, .string ⟨#[]⟩, .int .i64 0, .int .i64 0], .bool false]) ∧
    Lib.atoi (s.extract 0 n).data.toList = some (numV (s.extract 0 n).data.toList : Int) ∧ 1 ≤ (s.extract 0 n).size := by
  obtain ⟨c, r, hl2, hcc⟩ := head_of s c0 hs hc
  have h1 : letterU c = false := by unfold letterU; rw [hcc]; exact hl
  have h3 : digitU c = true := by unfold digitU; rw [hcc]; exact hd
  have h2 : n = ((c :: r).takeWhile digitU).length := by rw [hn, span_tw, hl2]; rfl
  have et : (s.extract 0 n).data.toList = (c :: r).takeWhile digitU := by rw [ext_take, hl2, h2, tw_take]
  have ed : (s.extract n s.size).data.toList = (c :: r).dropWhile digitU := by rw [ext_drop, hl2, h2, tw_drop]
  have en : (s.extract 0 n).size = n := by rw [size_len, et, ← h2]
  have hpos : 1 ≤ n := by rw [h2]; exact tw_len r h3
  have hall : ∀ b ∈ (c :: r).takeWhile digitU, digitU b = true := fun b hb => (List.all_eq_true.1 (List.all_takeWhile (l := c :: r) (p := digitU))) b hb
  have hne : (c :: r).takeWhile digitU ≠ [] := by intro e; rw [e] at h2; simp at h2; omega
  have hok : (!longB (s.extract 0 n) && decide ((numV (s.extract 0 n).data.toList : Int) < 4294967296) && behindB (s.extract n s.size)) = numOk ((c :: r).takeWhile digitU) ((c :: r).dropWhile digitU) := by
    have e1 : (strB (s.extract 0 n)).head? = ((c :: r).takeWhile digitU).head?.map (fun b : UInt8 => (b.toNat : Int)) := by
      unfold strB; rw [et, List.head?_map]
    have e2 : behindB (s.extract n s.size) = behindP ((c :: r).dropWhile digitU) := by
      unfold behindB strB behindP inNameU
      rw [ed, List.head?_map]
      cases (c :: r).dropWhile digitU <;> rfl
    have e3 : ((strB (s.extract 0 n)).head? == some 48) = (((c :: r).takeWhile digitU).head? == some 48) := by
      rw [e1]
      cases (c :: r).takeWhile digitU with
      | nil => rfl
      | cons d q =>
        have h48 : (48 : UInt8).toNat = 48 := rfl
        rw [Bool.eq_iff_iff]
        simp [← UInt8.toNat_inj]
        omega
    have e4 : decide ((numV ((c :: r).takeWhile digitU) : Int) < 4294967296) = decide (numV ((c :: r).takeWhile digitU) < 4294967296) := decide_eq_decide.2 (by omega)
    have e5 : decide (10 < (n : Int)) = !decide (n ≤ 10) := by
      rw [← decide_not]; exact decide_eq_decide.2 (by omega)
    have e6 : decide (1 < (n : Int)) = decide (1 < n) := decide_eq_decide.2 (by omega)
    unfold longB numOk
    rw [e2, e3, en, et, ← h2, e4, e5, e6]
    cases decide (n ≤ 10) <;> rfl
  refine ⟨?_, ?_, by omega⟩
  · rw [hok, et]
    unfold firstE firstP
    simp only [hl2, h1, h3, if_true, ← h2]
    cases numOk ((c :: r).takeWhile digitU) ((c :: r).dropWhile digitU) <;> simp
  · rw [et]
    exact digits_atoi _ hne hall

theorem firstE_sign (hl : letterB (c0 : Int) = false) (hd : digitB (c0 : Int) = false) (hg : signB (c0 : Int) = true) (n : Nat) (hn : signLen s = (n : Int)) :
    firstE s = .tuple #[.agg #[.int .i64 3, .string (s.extract 0 n), .int .i64 0, .int .i64 0], .bool true] := by
  obtain ⟨c, r, hl2, hcc⟩ := head_of s c0 hs hc
  have h1 : letterU c = false := by unfold letterU; rw [hcc]; exact hl
  have h3 : digitU c = false := by unfold digitU; rw [hcc]; exact hd
  have h4 : signU c = true := by unfold signU; rw [hcc]; exact hg
  have e : (if c == 61 && r.head? == some 61 then 2 else 1) = n := by
    unfold signLen at hn
    have : Lib.hasPrefix s.data.toList [61, 61] = (c == 61 && r.head? == some 61) := by
      rw [hl2]
      unfold Lib.hasPrefix
      cases r with
      | nil => simp [List.isPrefixOf]
      | cons d q =>
        simp only [List.isPrefixOf, Bool.and_true, List.head?_cons]
        rw [Bool.eq_iff_iff]
        simp
        constructor
        · rintro ⟨a, b⟩; exact ⟨a.symm, b.symm⟩
        · rintro ⟨a, b⟩; exact ⟨a.symm, b.symm⟩
    rw [this] at hn
    split at hn <;> rename_i hq <;> simp only [hq] <;> simp at hn ⊢ <;> omega
  unfold firstE firstP
  simp only [hl2, h1, h3, h4, if_true, e]
  simp

theorem firstE_none (hl : letterB (c0 : Int) = false) (hd : digitB (c0 : Int) = false) (hg : signB (c0 : Int) = false) :
    firstE s = .tuple #[.agg #[.int .i64 0, .string ⟨#[]⟩, .int .i64 0, .int .i64 0], .bool false] := by
  obtain ⟨c, r, hl2, hcc⟩ := head_of s c0 hs hc
  have h1 : letterU c = false := by unfold letterU; rw [hcc]; exact hl
  have h3 : digitU c = false := by unfold digitU; rw [hcc]; exact hd
  have h4 : signU c = false := by unfold signU; rw [hcc]; exact hg
  unfold firstE firstP
  simp [hl2, h1, h3, h4]
end Go.Proofs.YtplndghcileghaaDoor
