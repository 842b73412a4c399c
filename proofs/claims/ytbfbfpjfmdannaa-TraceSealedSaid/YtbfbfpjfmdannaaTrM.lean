/-
  TRACE: a seal of which one byte within is turned.
-/
import Derived.Test.YtbfbfpjfmdannaaTrL
import Derived.Test.YtbfbfpjfmdannaaWireV
namespace Go.Proofs.Ytbfbfpjfmdannaa
open Go.ChangeShapes Go.WideShapes Go.ChangeAt Go.RowKit

theorem seal_at (inn : List Int) (K : Nat) (h : K < inn.length) : (sealF inn).getD ((putF (zig inn.length)).length + K) 0 = inn.getD K 0 := by
  unfold sealF
  rw [List.getD_eq_getElem?_getD, List.append_assoc, List.getElem?_append_right (by omega), show (putF (zig inn.length)).length + K - (putF (zig inn.length)).length = K by omega, List.getElem?_append_left h, List.getD_eq_getElem?_getD]
theorem seal_set_none (inn : List Int) (K : Nat) (h : K < inn.length) (y : Int) (hr : ∀ x ∈ inn, In8 x) (hy : In8 y) (hne : y ≠ inn.getD K 0) (hl : inn.length ≤ 1000000) : openF ((sealF inn).set ((putF (zig inn.length)).length + K) y) = none := by
  have hx : In8 (inn.getD K 0) := getD_in8 hr K h
  have hsp : inn = inn.take K ++ [inn.getD K 0] ++ inn.drop (K + 1) := by
    rw [List.getD_eq_getElem?_getD, List.getElem?_eq_getElem h]
    show inn = inn.take K ++ [inn[K]] ++ inn.drop (K + 1)
    rw [List.append_assoc, List.singleton_append, List.getElem_cons_drop, List.take_append_drop]
  have hK : (inn.take K).length = K := by rw [List.length_take]; omega
  generalize inn.getD K 0 = x at *
  generalize inn.take K = A at *
  generalize inn.drop (K + 1) = B at *
  subst hsp
  have h1 := seal_turned A B x y
  rw [hK] at h1
  rw [h1]
  refine (open_turned A B x y hx hy ?_).2 (fun e => hne e.symm)
  simp only [List.length_append, List.length_cons, List.length_nil] at hl ⊢
  omega
theorem sealF_len3 {xs : List Int} (hl : xs.length ≤ 1000000) : (putF (zig (xs.length : Nat))).length + xs.length < (sealF xs).length ∧ 1 ≤ (putF (zig (xs.length : Nat))).length := by
  have hs := sumF_in xs
  have h1 := putF_len10 (zig_lt (n := xs.length) (by omega) (by omega))
  have h2 := putF_len10 (zig_lt (n := sumF xs) (by omega) (by omega))
  unfold sealF
  simp only [List.length_append]; omega
end Go.Proofs.Ytbfbfpjfmdannaa
