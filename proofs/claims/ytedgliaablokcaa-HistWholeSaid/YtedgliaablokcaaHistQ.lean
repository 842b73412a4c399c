/-
  HIST: what is true of right histories, plainly.
-/
import Derived.Test.YtedgliaablokcaaHistP
namespace Go.Proofs.Ytedgliaablokcaa
open Go.ChangeShapes Go.WideShapes Go.ChangeAt Go.RowKit

def aheadB (a b : CallV) : Bool := decide (a.last < b.first)

theorem right_may {l : List CallV} (h : rightB l = true) {c : CallV} (hc : c ∈ l) : mayC c = true := by
  unfold rightB at h
  rw [Bool.and_eq_true, List.all_eq_true] at h
  exact h.1 c hc
theorem may_le {c : CallV} (h : mayC c = true) : c.first ≤ c.last := (mayC_true h).2.2.2.2.2.2.2.1
theorem may_nn {c : CallV} (h : mayC c = true) : 0 ≤ c.first := (mayC_true h).2.2.2.2.2.2.1

theorem ahead_self {a : CallV} (h : mayC a = true) : aheadB a a = false := by
  have := may_le h
  unfold aheadB; exact decide_eq_false (by omega)
theorem ahead_both {a b : CallV} (ha : mayC a = true) (hb : mayC b = true) (h1 : aheadB a b = true) (h2 : aheadB b a = true) : False := by
  have h3 := of_decide_eq_true h1
  have h4 := of_decide_eq_true h2
  have := may_le ha
  have := may_le hb
  omega
theorem ahead_on {a b c : CallV} (hb : mayC b = true) (h1 : aheadB a b = true) (h2 : aheadB b c = true) : aheadB a c = true := by
  have h3 := of_decide_eq_true h1
  have h4 := of_decide_eq_true h2
  have := may_le hb
  exact decide_eq_true (by omega)
theorem ahead_or {a b c d : CallV} (h1 : aheadB a b = true) (h2 : aheadB c d = true) (h3 : aheadB a d = false) : aheadB c b = true := by
  have h4 := of_decide_eq_true h1
  have h5 := of_decide_eq_true h2
  have h6 := of_decide_eq_false h3
  exact decide_eq_true (by omega)
theorem ahead_seat {l : List CallV} (h : rightB l = true) (i j : Nat) (hi : i < l.length) (hj : j < l.length) (hw : l[i].who = l[j].who) (hf : l[i].first ≠ l[j].first) : aheadB l[i] l[j] = true ∨ aheadB l[j] l[i] = true := by
  have H := (rightB_iff l).1 h
  rcases Nat.lt_trichotomy i j with e | e | e
  · exact .inl (decide_eq_true (behind_who ((H j hj hj).2 i hi e) hw))
  · subst e; exact absurd rfl hf
  · exact .inr (decide_eq_true (behind_who ((H i hi hi).2 j hj e) hw.symm))

theorem right_part {l : List CallV} (h : rightB l = true) (F : CallV → Bool) : rightB (l.filter F) = true := by
  unfold rightB at h ⊢
  rw [Bool.and_eq_true, List.all_eq_true, decide_eq_true_eq] at h ⊢
  exact ⟨fun c hc => h.1 c (List.mem_filter.1 hc).1, h.2.filter F⟩

section
variable (F : CallV → Bool) (l : List CallV)
theorem take_snoc (at_ : Nat) (h : at_ < l.length) : (l.take (at_ + 1)).filter F = (l.take at_).filter F ++ (if F l[at_] = true then [l[at_]] else []) := by
  rw [List.take_succ_eq_append_getElem h, List.filter_append]
  congr 1
  by_cases hf : F l[at_] = true <;> simp [hf]
theorem emb_lt {at_ k : Nat} (ha : at_ ≤ l.length) (h : (l.take at_).filter F = (l.filter F).take k) (hk : k < (l.filter F).length) : at_ < l.length := by
  rcases Nat.lt_or_ge at_ l.length with h1 | h1
  · exact h1
  · rw [List.take_of_length_le h1] at h
    have := congrArg List.length h
    rw [List.length_take] at this
    omega
theorem emb_prefix (at_ : Nat) : (l.take at_).filter F <+: l.filter F := by
  have : l.filter F = (l.take at_).filter F ++ (l.drop at_).filter F := by rw [← List.filter_append, List.take_append_drop]
  rw [this]; exact List.prefix_append _ _
theorem emb_next {at_ k : Nat} (hat : at_ < l.length) (h : (l.take at_).filter F = (l.filter F).take k) (hk : k < (l.filter F).length) (hF : F l[at_] = true) : l[at_] = (l.filter F)[k] := by
  have h1 := emb_prefix F l (at_ + 1)
  rw [take_snoc F l at_ hat, if_pos hF, h] at h1
  have h2 := List.prefix_iff_eq_take.1 h1
  have hl : ((l.filter F).take k ++ [l[at_]]).length = k + 1 := by rw [List.length_append, List.length_take]; simp; omega
  rw [hl, List.take_succ_eq_append_getElem hk] at h2
  have h3 := List.append_cancel_left h2
  injection h3
theorem emb_skip {at_ k : Nat} (hat : at_ < l.length) (h : (l.take at_).filter F = (l.filter F).take k) (hk : k < (l.filter F).length) (hne : l[at_] ≠ (l.filter F)[k]) : (l.take (at_ + 1)).filter F = (l.filter F).take k := by
  have hF : ¬ F l[at_] = true := fun hF => hne (emb_next F l hat h hk hF)
  rw [take_snoc F l at_ hat, if_neg hF, List.append_nil, h]
theorem emb_hit {at_ k : Nat} (hat : at_ < l.length) (h : (l.take at_).filter F = (l.filter F).take k) (hk : k < (l.filter F).length) (he : l[at_] = (l.filter F)[k]) : (l.take (at_ + 1)).filter F = (l.filter F).take (k + 1) := by
  have hF : F l[at_] = true := by rw [he]; exact (List.mem_filter.1 (List.getElem_mem hk)).2
  rw [take_snoc F l at_ hat, if_pos hF, h, List.take_succ_eq_append_getElem hk, he]
end
end Go.Proofs.Ytedgliaablokcaa
