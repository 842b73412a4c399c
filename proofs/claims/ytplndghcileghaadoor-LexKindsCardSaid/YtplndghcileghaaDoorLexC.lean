/-
  LEX: the signs (the library's contracts: <Name>Shelf, laid by wip/tools/lays.py).
-/
import Derived.Test.YtplndghcileghaaDoorRows
import Derived.ProofKit
import Derived.Test.YtplndghcileghaaDoorLexB
import Derived.Test.YtplndghcileghaaDoorShelf
namespace Go.Proofs.YtplndghcileghaaDoor
open Go.ChangeShapes Go.WideShapes Go.ChangeAt Go.RowKit

theorem index_any : ∀ (l : List UInt8) (c : UInt8), decide (0 ≤ Lib.indexByte l c) = l.contains c
  | [], c => rfl
  | b :: l, c => by
    have ih := index_any l c
    have hg := Lib.indexByte_ge l c
    rw [List.contains_cons, ← ih]
    show decide (0 ≤ (if (b == c) = true then (0 : Int) else if (Lib.indexByte l c == -1) = true then -1 else Lib.indexByte l c + 1)) = _
    by_cases h : b = c
    · subst h; simp
    · have h1 : (b == c) = false := by simpa using h
      have h2 : (c == b) = false := by simpa using (fun e => h e.symm)
      rw [h1, h2]
      by_cases h3 : Lib.indexByte l c = -1
      · rw [h3]; rfl
      · have h4 : (Lib.indexByte l c == -1) = false := by simpa using h3
        rw [h4]
        simp
        omega

set_option maxRecDepth 100000 in
theorem sign_tells : ∀ n : Fin 128, signB (n.val : Int) = decide (0 ≤ Lib.indexByte [40, 41, 123, 125, 44, 59, 46, 61, 43, 45, 42, 60] ((n.val : Int).toNat.toUInt8)) := by decide
theorem sign_high (c : Int) (h : 128 ≤ c) : signB c = false := by
  unfold signB signL
  simp only [List.contains_cons, List.contains_nil, Bool.or_false]
  simp
  omega
theorem sign_low (c : Int) (h0 : 0 ≤ c) (h1 : c < 128) : signB c = decide (0 ≤ Lib.indexByte [40, 41, 123, 125, 44, 59, 46, 61, 43, 45, 42, 60] c.toNat.toUInt8) := by
  have := sign_tells ⟨c.toNat, by omega⟩
  have e : ((c.toNat : Nat) : Int) = c := by omega
  simpa [e] using this

theorem sign_any (c : Int) (h0 : 0 ≤ c) (w : World) : Calls Tryd.prog 31 #[.int .i32 c] w fun e w' => e = .returned (.bool (signB c)) ∧ w' = w := by
  by_cases h1 : c < 128
  · go_enter Tryd.func31, Tryd.ntmps31
    go_wp2_with fail
    refine (Tryd.strings_ContainsRune_ascii _ c w h0 h1).mono ?_
    rintro e w1 ⟨rfl, rfl⟩
    rw [← sign_low c h0 h1]
    go_wp2_with fail
    go_ret
    exact ⟨rfl, rfl⟩
  · have hb := Lib.hid (sign_high c (by omega))
    go_enter Tryd.func31, Tryd.ntmps31
    go_wp2_with fail
    go_ret
    exact ⟨by rw [hb.out]; rfl, rfl⟩

def signLen (s : ByteArray) : Int := if Lib.hasPrefix s.data.toList [61, 61] then 2 else 1

theorem signLength_any (s : ByteArray) (w : World) :
    Calls Tryd.prog 32 #[.string s] w fun e w' => e = .returned (.int .i64 (signLen s)) ∧ w' = w := by
  go_enter Tryd.func32, Tryd.ntmps32
  go_wp2_with fail
  refine (Tryd.strings_HasPrefix s ⟨#[61, 61]⟩ w).mono ?_
  rintro e w1 ⟨rfl, rfl⟩
  cases hp : Lib.hasPrefix s.data.toList [61, 61]
  · have HP := Lib.hid hp
    clear hp
    go_wp2_with fail
    go_ret
    exact ⟨by unfold signLen; rw [HP.out]; rfl, rfl⟩
  · have HP := Lib.hid hp
    clear hp
    go_wp2_with fail
    go_ret
    exact ⟨by unfold signLen; rw [HP.out]; rfl, rfl⟩
end Go.Proofs.YtplndghcileghaaDoor
