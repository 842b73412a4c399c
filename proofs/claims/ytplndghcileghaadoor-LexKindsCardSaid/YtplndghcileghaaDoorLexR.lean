/-
  LEX: the document's class, end, number.
-/
import Derived.Test.YtplndghcileghaaDoorRows
import Derived.ProofKit
import Derived.Test.YtplndghcileghaaDoorLexA
import Derived.LoopTactic
namespace Go.Proofs.YtplndghcileghaaDoor
open Go.ChangeShapes Go.WideShapes Go.ChangeAt Go.RowKit

def classB (c : Int) : Int := if letterB c then 1 else if digitB c then 2 else if c == 95 then 3 else if blankB c then 4 else if signB c then 5 else 0

theorem class_ways : ∀ n : Fin 256, (97 ≤ n.val ∧ n.val ≤ 122 ∧ classB n.val = 1) ∨ (65 ≤ n.val ∧ n.val ≤ 90 ∧ classB n.val = 1) ∨ (48 ≤ n.val ∧ n.val ≤ 57 ∧ classB n.val = 2) ∨ n.val = 95 ∨ n.val = 9 ∨ n.val = 10 ∨ n.val = 32 ∨
    n.val = 40 ∨ n.val = 41 ∨ n.val = 123 ∨ n.val = 125 ∨ n.val = 44 ∨ n.val = 59 ∨ n.val = 46 ∨ n.val = 61 ∨ n.val = 43 ∨ n.val = 45 ∨ n.val = 42 ∨ n.val = 60 ∨
    (¬ (97 ≤ n.val ∧ n.val ≤ 122) ∧ ¬ (65 ≤ n.val ∧ n.val ≤ 90) ∧ ¬ (48 ≤ n.val ∧ n.val ≤ 57) ∧ n.val ≠ 95 ∧ n.val ≠ 9 ∧ n.val ≠ 10 ∧ n.val ≠ 32 ∧
      n.val ≠ 40 ∧ n.val ≠ 41 ∧ n.val ≠ 123 ∧ n.val ≠ 125 ∧ n.val ≠ 44 ∧ n.val ≠ 59 ∧ n.val ≠ 46 ∧ n.val ≠ 61 ∧ n.val ≠ 43 ∧ n.val ≠ 45 ∧ n.val ≠ 42 ∧ n.val ≠ 60 ∧ classB n.val = 0) := by
  decide +kernel

theorem class_ways2 (n : Nat) (hn : n < 256) : (97 ≤ n ∧ n ≤ 122 ∧ classB n = 1) ∨ (65 ≤ n ∧ n ≤ 90 ∧ classB n = 1) ∨ (48 ≤ n ∧ n ≤ 57 ∧ classB n = 2) ∨ n = 95 ∨ n = 9 ∨ n = 10 ∨ n = 32 ∨
    n = 40 ∨ n = 41 ∨ n = 123 ∨ n = 125 ∨ n = 44 ∨ n = 59 ∨ n = 46 ∨ n = 61 ∨ n = 43 ∨ n = 45 ∨ n = 42 ∨ n = 60 ∨
    (¬ (97 ≤ n ∧ n ≤ 122) ∧ ¬ (65 ≤ n ∧ n ≤ 90) ∧ ¬ (48 ≤ n ∧ n ≤ 57) ∧ n ≠ 95 ∧ n ≠ 9 ∧ n ≠ 10 ∧ n ≠ 32 ∧
      n ≠ 40 ∧ n ≠ 41 ∧ n ≠ 123 ∧ n ≠ 125 ∧ n ≠ 44 ∧ n ≠ 59 ∧ n ≠ 46 ∧ n ≠ 61 ∧ n ≠ 43 ∧ n ≠ 45 ∧ n ≠ 42 ∧ n ≠ 60 ∧ classB n = 0) := class_ways ⟨n, hn⟩

theorem retI {a b : Int} (h : a = b) : Ending.returned (.int .i64 a) = .returned (.int .i64 b) := by rw [h]

set_option maxHeartbeats 1000000 in
theorem class_any (n : Nat) (hn : n < 256) (w : World) : Calls Tryd.prog 21 #[.int .u8 (n : Int)] w fun e w' => e = .returned (.int .i64 (classB (n : Int))) ∧ w' = w := by
  rcases class_ways2 n hn with ⟨h1, h2, h3⟩ | ⟨h1, h2, h3⟩ | ⟨h1, h2, h3⟩ | rfl | rfl | rfl | rfl | rfl | rfl | rfl | rfl | rfl | rfl | rfl | rfl | rfl | rfl | rfl | rfl | ⟨h1, h2, h3, n1, n2, n3, n4, n5, n6, n7, n8, n9, n10, n11, n12, n13, n14, n15, n16, h4⟩
  · have h1 : 97 ≤ n := h1
    have h2 : n ≤ 122 := h2
    have H := Lib.hid h3
    clear h3
    go_enter Tryd.func21, Tryd.ntmps21
    go_wp2
    go_ret
    exact ⟨retI H.out.symm, rfl⟩
  · have h1 : 65 ≤ n := h1
    have h2 : n ≤ 90 := h2
    have H := Lib.hid h3
    clear h3
    go_enter Tryd.func21, Tryd.ntmps21
    go_wp2
    go_ret
    exact ⟨retI H.out.symm, rfl⟩
  · have h1 : 48 ≤ n := h1
    have h2 : n ≤ 57 := h2
    have H := Lib.hid h3
    clear h3
    go_enter Tryd.func21, Tryd.ntmps21
    go_wp2
    go_ret
    exact ⟨retI H.out.symm, rfl⟩
  all_goals try (go_enter Tryd.func21, Tryd.ntmps21; go_wp2; go_ret; exact ⟨rfl, rfl⟩)
  have H := Lib.hid h4
  clear h4
  have e1 : ((n : Int) == 95) = false := by simp; omega
  have e2 : ((n : Int) == 9) = false := by simp; omega
  have e3 : ((n : Int) == 10) = false := by simp; omega
  have e4 : ((n : Int) == 32) = false := by simp; omega
  have e5 : ((n : Int) == 40) = false := by simp; omega
  have e6 : ((n : Int) == 41) = false := by simp; omega
  have e7 : ((n : Int) == 123) = false := by simp; omega
  have e8 : ((n : Int) == 125) = false := by simp; omega
  have e9 : ((n : Int) == 44) = false := by simp; omega
  have e10 : ((n : Int) == 59) = false := by simp; omega
  have e11 : ((n : Int) == 46) = false := by simp; omega
  have e12 : ((n : Int) == 61) = false := by simp; omega
  have e13 : ((n : Int) == 43) = false := by simp; omega
  have e14 : ((n : Int) == 45) = false := by simp; omega
  have e15 : ((n : Int) == 42) = false := by simp; omega
  have e16 : ((n : Int) == 60) = false := by simp; omega
  clear n1 n2 n3 n4 n5 n6 n7 n8 n9 n10 n11 n12 n13 n14 n15 n16
  go_enter Tryd.func21, Tryd.ntmps21
  go_wp2
  all_goals first
    | (exfalso; omega)
    | (go_ret; exact ⟨retI H.out.symm, rfl⟩)

/-- what the class tells -/
theorem class_cases (c : UInt8) : (classB (c.toNat : Int) = 1 ∧ letterU c = true ∧ blankU c = false) ∨ (classB (c.toNat : Int) = 2 ∧ letterU c = false ∧ digitU c = true ∧ blankU c = false) ∨
    (classB (c.toNat : Int) = 3 ∧ letterU c = false ∧ digitU c = false ∧ blankU c = false ∧ signU c = false) ∨
    (classB (c.toNat : Int) = 4 ∧ blankU c = true) ∨ (classB (c.toNat : Int) = 5 ∧ letterU c = false ∧ digitU c = false ∧ signU c = true ∧ blankU c = false) ∨
    (classB (c.toNat : Int) = 0 ∧ letterU c = false ∧ digitU c = false ∧ signU c = false ∧ blankU c = false) := by
  refine all_u8 (P := fun c => (classB (c.toNat : Int) = 1 ∧ letterU c = true ∧ blankU c = false) ∨ (classB (c.toNat : Int) = 2 ∧ letterU c = false ∧ digitU c = true ∧ blankU c = false) ∨
    (classB (c.toNat : Int) = 3 ∧ letterU c = false ∧ digitU c = false ∧ blankU c = false ∧ signU c = false) ∨
    (classB (c.toNat : Int) = 4 ∧ blankU c = true) ∨ (classB (c.toNat : Int) = 5 ∧ letterU c = false ∧ digitU c = false ∧ signU c = true ∧ blankU c = false) ∨
    (classB (c.toNat : Int) = 0 ∧ letterU c = false ∧ digitU c = false ∧ signU c = false ∧ blankU c = false)) ?_ c
  decide +kernel
theorem class_name (c : UInt8) : inNameU c = (classB (c.toNat : Int) == 1 || classB (c.toNat : Int) == 2 || classB (c.toNat : Int) == 3) ∧ digitU c = (classB (c.toNat : Int) == 2) ∧ blankU c = (classB (c.toNat : Int) == 4) := by
  refine all_u8 (P := fun c => inNameU c = (classB (c.toNat : Int) == 1 || classB (c.toNat : Int) == 2 || classB (c.toNat : Int) == 3) ∧ digitU c = (classB (c.toNat : Int) == 2) ∧ blankU c = (classB (c.toNat : Int) == 4)) ?_ c
  decide +kernel

theorem byte_at (s : ByteArray) (i : Nat) (h : i < s.size) : s.data.toList[i]? = some (s[i]'h) := by
  have h' : i < s.data.size := h
  rw [Array.getElem?_toList, Array.getElem?_eq_getElem h']
  rfl
theorem drop_at (s : ByteArray) (i : Nat) (h : i < s.size) : s.data.toList.drop i = (s[i]'h) :: s.data.toList.drop (i + 1) := by
  have hb := byte_at s i h
  obtain ⟨hl, he⟩ := List.getElem?_eq_some_iff.1 hb
  rw [List.drop_eq_getElem_cons hl, he]

theorem blank_says (c : UInt8) (w : World) : Calls Tryd.prog 15 #[.int .u8 (c.toNat : Int)] w fun e w' => e = .returned (.bool (blankU c)) ∧ w' = w := by
  have H := Lib.hid (class_name c).2.2
  go_enter Tryd.func15, Tryd.ntmps15
  go_wp2_with fail
  refine (class_any c.toNat c.toNat_lt _).mono ?_
  rintro e w1 ⟨rfl, rfl⟩
  go_wp2_with fail
  go_ret
  exact ⟨by rw [H.out]; rfl, rfl⟩
end Go.Proofs.YtplndghcileghaaDoor
