/-
  LEX: numberMayBe.
-/
import Derived.Test.YtplndghcileghaaDoorRows
import Derived.ProofKit
import Derived.Test.YtplndghcileghaaDoorLexC
import Derived.Lib.AtoiErrMem
namespace Go.Proofs.YtplndghcileghaaDoor
open Go.ChangeShapes Go.WideShapes Go.ChangeAt Go.RowKit

/-- a number's word, with what stands behind it: may it be? -/
def longB (s : ByteArray) : Bool := decide (10 < (s.size : Int)) || (decide (1 < (s.size : Int)) && (strB s).head? == some 48)
def behindB (t : ByteArray) : Bool := match (strB t).head? with | none => true | some c => !inNameB c

theorem numberMayBe_any (s t : ByteArray) (n : Int) (h : Lib.atoi s.data.toList = some n) (hs : 1 ≤ s.size) (w : World) :
    Calls Tryd.prog 30 #[.string s, .string t] w fun e w' => e = .returned (.bool (!longB s && decide (n < 4294967296) && behindB t)) ∧ Below w.heap.size w w' := by
  go_enter Tryd.func30, Tryd.ntmps30
  obtain ⟨b0, hb0⟩ : ∃ b0 : Nat, (s[0]'(by omega)).toNat = b0 := ⟨_, rfl⟩
  have hz := Lib.hid (show (strB s).head? = some (b0 : Int) from by rw [List.head?_eq_getElem?, strB_at s 0 (by omega), hb0])
  by_cases h1 : 10 < (s.size : Int)
  · have HL := Lib.hid (show longB s = true from by unfold longB; simp [h1])
    go_wp2_with fail
    all_goals go_ret
    all_goals exact ⟨by rw [HL.out]; rfl, Below.refl _ _⟩
  · by_cases h2 : 1 < (s.size : Int)
    · by_cases h3 : b0 = 48
      · have HL := Lib.hid (show longB s = true from by unfold longB; rw [hz.out, h3]; simp [h2])
        go_wp2_with fail
        all_goals go_ret
        all_goals exact ⟨by rw [HL.out]; rfl, Below.refl _ _⟩
      · have HL := Lib.hid (show longB s = false from by unfold longB; rw [hz.out]; simp [h1]; omega)
        go_wp2_with fail
        refine (Tryd.strconv_Atoi s n (by omega) h _).mono ?_
        rintro e w1 ⟨rfl, tt, hw⟩
        have HB : Below w.heap.size w w1 := by rw [hw]; exact Lib.bytesWorld_below _ _ _
        clear hw
        by_cases hn : n < 4294967296
        · have HN := Lib.hid (show decide (n < 4294967296) = true from by simpa using hn)
          rcases Nat.eq_zero_or_pos t.size with ht | ht
          · have te : t = ⟨#[]⟩ := by
              cases t with
              | mk d => have : d.size = 0 := ht
                        rw [Array.size_eq_zero_iff.1 this]
            subst te
            have HT := Lib.hid (show behindB ⟨#[]⟩ = true from rfl)
            go_wp2_with fail
            go_ret
            exact ⟨by rw [HL.out, HN.out, HT.out]; rfl, HB⟩
          · obtain ⟨c0, hc0⟩ : ∃ c0 : Nat, (t[0]'ht).toNat = c0 := ⟨_, rfl⟩
            have HT := Lib.hid (show behindB t = !inNameB (c0 : Int) from by unfold behindB; rw [List.head?_eq_getElem?, strB_at t 0 ht, hc0])
            have hne : ¬ t.toList = [] := by
              rw [ByteArray.toList_eq]
              intro e
              have := congrArg List.length e
              rw [Array.length_toList] at this
              have ht' : 0 < t.data.size := ht
              rw [this] at ht'
              exact absurd ht' (by decide)
            have hem : t.toList.isEmpty = false := by
              cases hq : t.toList with
              | nil => exact absurd hq hne
              | cons a b => rfl
            have hw : wrap32 (c0 : Int) = (c0 : Int) := by
              have := (t[0]'ht).toNat_lt
              unfold wrap32; omega
            go_wp2_with fail
            rw [hw]
            refine (inName_any (c0 : Int) _).mono ?_
            rintro e w2 ⟨rfl, rfl⟩
            go_wp2_with fail
            go_ret
            exact ⟨by rw [HL.out, HN.out, HT.out]; rfl, HB⟩
        · have HN := Lib.hid (show decide (n < 4294967296) = false from by simpa using hn)
          go_wp2_with fail
          go_ret
          exact ⟨by rw [HL.out, HN.out]; rfl, HB⟩
    · have HL := Lib.hid (show longB s = false from by unfold longB; simp [h1, h2])
      go_wp2_with fail
      · refine (Tryd.strconv_Atoi s n (by omega) h _).mono ?_
        rintro e w1 ⟨rfl, tt, hw⟩
        have HB : Below w.heap.size w w1 := by rw [hw]; exact Lib.bytesWorld_below _ _ _
        clear hw
        by_cases hn : n < 4294967296
        · have HN := Lib.hid (show decide (n < 4294967296) = true from by simpa using hn)
          rcases Nat.eq_zero_or_pos t.size with ht | ht
          · have te : t = ⟨#[]⟩ := by
              cases t with
              | mk d => have : d.size = 0 := ht
                        rw [Array.size_eq_zero_iff.1 this]
            subst te
            have HT := Lib.hid (show behindB ⟨#[]⟩ = true from rfl)
            go_wp2_with fail
            go_ret
            exact ⟨by rw [HL.out, HN.out, HT.out]; rfl, HB⟩
          · obtain ⟨c0, hc0⟩ : ∃ c0 : Nat, (t[0]'ht).toNat = c0 := ⟨_, rfl⟩
            have HT := Lib.hid (show behindB t = !inNameB (c0 : Int) from by unfold behindB; rw [List.head?_eq_getElem?, strB_at t 0 ht, hc0])
            have hne : ¬ t.toList = [] := by
              rw [ByteArray.toList_eq]
              intro e
              have := congrArg List.length e
              rw [Array.length_toList] at this
              have ht' : 0 < t.data.size := ht
              rw [this] at ht'
              exact absurd ht' (by decide)
            have hem : t.toList.isEmpty = false := by
              cases hq : t.toList with
              | nil => exact absurd hq hne
              | cons a b => rfl
            have hw : wrap32 (c0 : Int) = (c0 : Int) := by
              have := (t[0]'ht).toNat_lt
              unfold wrap32; omega
            go_wp2_with fail
            rw [hw]
            refine (inName_any (c0 : Int) _).mono ?_
            rintro e w2 ⟨rfl, rfl⟩
            go_wp2_with fail
            go_ret
            exact ⟨by rw [HL.out, HN.out, HT.out]; rfl, HB⟩
        · have HN := Lib.hid (show decide (n < 4294967296) = false from by simpa using hn)
          go_wp2_with fail
          go_ret
          exact ⟨by rw [HL.out, HN.out]; rfl, HB⟩
end Go.Proofs.YtplndghcileghaaDoor
