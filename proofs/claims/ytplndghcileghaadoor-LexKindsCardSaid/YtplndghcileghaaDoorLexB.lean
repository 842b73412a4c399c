/-
  LEX: skip, the lengths of words, what may be.
-/
import Derived.Test.YtplndghcileghaaDoorRows
import Derived.ProofKit
import Derived.Test.YtplndghcileghaaDoorLexA
import Derived.Test.YtplndghcileghaaDoorBits
import Derived.Shelf.Abstract
import Derived.Laws.Strings
import Derived.Laws.Strings2
import Derived.Laws.Strings3
namespace Go.Proofs.YtplndghcileghaaDoor
open Go.ChangeShapes Go.WideShapes Go.ChangeAt Go.RowKit

theorem iter_below (w : World) (s : ByteArray) (pos : Nat) : Below w.heap.size w (w.iter s pos) := by
  unfold World.iter
  exact (Below.refl _ w).alloc (Nat.le_refl _) _

theorem strB_drop (s : ByteArray) (a : Nat) : strB (s.extract a s.size) = (strB s).drop a := by
  unfold strB
  rw [← List.map_drop]
  congr 1
  rw [ByteArray.data_extract, Array.toList_extract]
  simp [List.extract]
  rw [List.take_of_length_le]
  rw [List.length_drop, Array.length_toList]
  exact Nat.le_refl _

theorem spanF_le (P : Int → Bool) (l : List Int) : spanF P l ≤ l.length := (List.takeWhile_sublist P).length_le

theorem blank_pred : PredB 35 blankB := fun c w => blank_any c w
theorem blank_high (c : Int) (h : 128 ≤ c) : blankB c = false := by unfold blankB; simp; omega
theorem inName_pred : PredB 40 inNameB := fun c w => inName_any c w
theorem inName_high (c : Int) (h : 128 ≤ c) : inNameB c = false := by unfold inNameB letterB digitB; simp; omega
theorem digit_pred : PredB 28 digitB := fun c w => digit_any c w
theorem digit_high (c : Int) (h : 128 ≤ c) : digitB c = false := by unfold digitB; simp; omega
theorem blank_enters : ∀ args w, (callFunc 35 args).run Tryd.prog w = .ok (.enter 35 args) w := enters_of Tryd.func35 (by kernel_rfl) rfl
theorem inName_enters : ∀ args w, (callFunc 40 args).run Tryd.prog w = .ok (.enter 40 args) w := enters_of Tryd.func40 (by kernel_rfl) rfl
theorem digit_enters : ∀ args w, (callFunc 28 args).run Tryd.prog w = .ok (.enter 28 args) w := enters_of Tryd.func28 (by kernel_rfl) rfl

set_option maxRecDepth 100000 in
theorem skip_any (s : ByteArray) (a : Nat) (ha : a ≤ s.size) (hs : s.size < 4611686018427387904) (w : World) :
    Calls Tryd.prog 19 #[.string s, .int .i64 a] w fun e w' => e = .returned (.int .i64 ((a + spanF blankB ((strB s).drop a) : Nat) : Int)) ∧ Below w.heap.size w w' := by
  go_enter Tryd.func19, Tryd.ntmps19
  go_wp2_with fail
  refine (span_any _ _ blankB blank_enters blank_pred blank_high _).mono ?_
  rintro e w1 ⟨rfl, pos, rfl⟩
  have HS := Lib.hid (show spanF blankB ((strB s).drop a) ≤ s.size - a from by
    have := spanF_le blankB ((strB s).drop a)
    rwa [List.length_drop, strB_length] at this)
  go_wp2_with fail
  go_ret
  refine ⟨?_, iter_below _ _ _⟩
  have h2 := HS.out
  rw [strB_drop, wrap64_small _ (by omega) (by omega)]
  rw [Int.natCast_add]
  rfl

theorem nameLength_any (s : ByteArray) (w : World) :
    Calls Tryd.prog 26 #[.string s] w fun e w' => e = .returned (.int .i64 (spanF inNameB (strB s) : Nat)) ∧ Below w.heap.size w w' := by
  go_enter Tryd.func26, Tryd.ntmps26
  go_wp2_with fail
  refine (span_any _ _ inNameB inName_enters inName_pred inName_high _).mono ?_
  rintro e w1 ⟨rfl, pos, rfl⟩
  go_wp2_with fail
  go_ret
  exact ⟨rfl, iter_below _ _ _⟩

theorem numberLength_any (s : ByteArray) (w : World) :
    Calls Tryd.prog 29 #[.string s] w fun e w' => e = .returned (.int .i64 (spanF digitB (strB s) : Nat)) ∧ Below w.heap.size w w' := by
  go_enter Tryd.func29, Tryd.ntmps29
  go_wp2_with fail
  refine (span_any _ _ digitB digit_enters digit_pred digit_high _).mono ?_
  rintro e w1 ⟨rfl, pos, rfl⟩
  go_wp2_with fail
  go_ret
  exact ⟨rfl, iter_below _ _ _⟩

theorem nameMayBe_any (s t : ByteArray) (w : World) :
    Calls Tryd.prog 27 #[.string s, .string t] w fun e w' => e = .returned (.bool (decide ((s.size : Int) ≤ 12))) ∧ w' = w := by
  go_enter Tryd.func27, Tryd.ntmps27
  go_wp2_with fail
  go_ret
  exact ⟨rfl, rfl⟩

theorem signMayBe_any (s t : ByteArray) (w : World) :
    Calls Tryd.prog 33 #[.string s, .string t] w fun e w' => e = .returned (.bool true) ∧ w' = w := by
  go_enter Tryd.func33, Tryd.ntmps33
  go_wp2_with fail
  go_ret
  exact ⟨rfl, rfl⟩
end Go.Proofs.YtplndghcileghaaDoor
