/-
  LAYOUT: a conf that came in, taken apart.
-/
import Derived.Test.YtbaeckehchpfaaaLayJ
import Derived.ChangeSame
import Derived.OpenShut
import Derived.WideShapes
import Derived.Lib.SmallJoins
namespace Go.Proofs.Ytbaeckehchpfaaa
open Go.ChangeShapes Go.WideShapes Go.ChangeAt Go.RowKit

theorem open_conf {H : Type} {enc : TypeId × Value → H} {w : World} {base : Nat} {held : Bool} {r : Reach} {b0 : Nat} {v : Value} {d : DataW H} {p : List MemPlace} (hv : Value.okWide Try.prog w r b0 23 v) (h : DataW.Trod enc Try.prog w base (fun _ => true) held 23 v d p) :
    ∃ a0 a1 a2 a3 a4 a5 a6 a7 a8 : Int, v = .agg #[.int .i64 a0, .int .i64 a1, .int .i64 a2, .int .i64 a3, .int .i64 a4, .int .i64 a5, .int .i64 a6, .int .i64 a7, .int .i64 a8] ∧
      (Lit.int .i64 a0).wf = true ∧ (Lit.int .i64 a1).wf = true ∧ (Lit.int .i64 a2).wf = true ∧ (Lit.int .i64 a3).wf = true ∧ (Lit.int .i64 a4).wf = true ∧ (Lit.int .i64 a5).wf = true ∧ (Lit.int .i64 a6).wf = true ∧ (Lit.int .i64 a7).wf = true ∧ (Lit.int .i64 a8).wf = true := by
  obtain ⟨cs, rfl, hsz⟩ := okWide_struct confU hv
  have hC : Try.prog.cellsOf 23 = 9 := by kernel_rfl
  have hC1 : Try.prog.cellsOf 3 = 1 := by kernel_rfl
  have h9 : cs.size = 9 := hsz.trans hC
  obtain ⟨fuel, hf⟩ := h
  obtain ⟨xs, n, _, _, hl, hlen, hfs⟩ := DataW.trod_struct confU hf
  have hok := confFields_ok
  unfold confFieldsB at hok
  rw [Bool.and_eq_true, List.all_eq_true, List.all_eq_true] at hok
  have key : ∀ j, j < 9 → ∃ a, cs[j]? = some (.int .i64 a) ∧ (Lit.int .i64 a).wf = true := by
    intro j hj
    obtain ⟨f, hfm, he⟩ := List.any_eq_true.1 (hok.2 j (by simpa using hj))
    rw [beq_iff_eq] at he
    obtain ⟨i, hi, hie⟩ := List.mem_iff_getElem.1 hfm
    have h1 := hok.1 f hfm
    simp only [Bool.and_eq_true, beq_iff_eq] at h1
    have h2 := hfs i f (by rw [← Array.getElem?_toList, List.getElem?_eq_getElem hi, hie])
    rw [h1.1, he, hC1] at h2
    have hcl : (Value.agg cs).cells = cs := rfl
    rw [hcl, show (cs.toList.drop j).take 1 = [cs[j]'(by omega)] by
      rw [List.drop_eq_getElem_cons (by simpa using (by omega : j < cs.size)), List.take_succ_cons, List.take_zero]; simp] at h2
    have hil : i < xs.length := by rw [hlen, ← Array.length_toList]; exact hi
    rw [List.getElem?_eq_getElem hil] at h2
    obtain ⟨a, e1, _, hw⟩ := DataW.trod_int intU h2
    simp only [List.cons.injEq, and_true] at e1
    exact ⟨a, by rw [Array.getElem?_eq_getElem (by omega), e1], hw⟩
  obtain ⟨a0, e0, w0⟩ := key 0 (by omega)
  obtain ⟨a1, e1, w1⟩ := key 1 (by omega)
  obtain ⟨a2, e2, w2⟩ := key 2 (by omega)
  obtain ⟨a3, e3, w3⟩ := key 3 (by omega)
  obtain ⟨a4, e4, w4⟩ := key 4 (by omega)
  obtain ⟨a5, e5, w5⟩ := key 5 (by omega)
  obtain ⟨a6, e6, w6⟩ := key 6 (by omega)
  obtain ⟨a7, e7, w7⟩ := key 7 (by omega)
  obtain ⟨a8, e8, w8⟩ := key 8 (by omega)
  refine ⟨a0, a1, a2, a3, a4, a5, a6, a7, a8, ?_, w0, w1, w2, w3, w4, w5, w6, w7, w8⟩
  congr 1
  apply Array.ext_getElem?
  intro j
  by_cases hj : j < 9
  · rcases (show j = 0 ∨ j = 1 ∨ j = 2 ∨ j = 3 ∨ j = 4 ∨ j = 5 ∨ j = 6 ∨ j = 7 ∨ j = 8 by omega) with rfl | rfl | rfl | rfl | rfl | rfl | rfl | rfl | rfl
    · exact e0
    · exact e1
    · exact e2
    · exact e3
    · exact e4
    · exact e5
    · exact e6
    · exact e7
    · exact e8
  · rw [Array.getElem?_eq_none (by omega), Array.getElem?_eq_none (by simp; omega)]
end Go.Proofs.Ytbaeckehchpfaaa
