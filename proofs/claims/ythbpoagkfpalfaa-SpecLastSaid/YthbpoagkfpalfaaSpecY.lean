/-
  SPEC: the append of a row of numbers, nil or not, in a region that draws its order.
-/
import Derived.Test.YthbpoagkfpalfaaSpecX
import Derived.Test.YthbpoagkfpalfaaStep2
namespace Go.Proofs.Ythbpoagkfpalfaa
open Go.ChangeShapes Go.WideShapes Go.ChangeAt Go.RowKit

section
variable {ops : Array Oper} {Q : Exit → Act → World → Prop} {md : Region.Mode}
theorem any_append_nums {i : Nat} {o : Oper} {fuel : Nat} {listed : Array Bool} {a : Act} (w : World) (ho : ops[i]? = some o) (hr : Region.ready md ops listed = [i]) (hw : Region.wanted o (yielded ops a.tmps) = true) (s x : Operand)
    (hop : o.op = .call { callee := .builtin .append, args := #[s, x], argTypes := #[22, 22] })
    (base : Nat) (v : Value) (n : Nat) (xs : List Int) (hs : a.eval s = v) (hown : w.ownsRow base 3 1 v n (xs.map (Value.int .i64)))
    (p : Option Addr) (m c : Nat) (ys : List Int) (hx : a.eval x = .slice p m c) (hN : Nums w p c ys) (hl : ys.length = m) (r : Nat) (hnr : n + m = r) (hle : r ≤ 100000) (hbase : base ≤ w.heap.size)
    (h : ∀ v' w', w'.ownsRow base 3 1 v' r ((xs ++ ys).map (Value.int .i64)) → w.grownBy w' v.ownBlock → wpAny Try.prog md ops Q fuel (listed.setIfInBounds i true) (a.put o.dst v') w') :
    wpAny Try.prog md ops Q (fuel + 1) listed a w := by
  obtain ⟨i0, hi0, hz0, hz1, hz2⟩ := info_parts intInfo
  subst hnr
  cases p with
  | none =>
    have hc := hN.nil rfl
    have hle := hN.le
    have hm : m = 0 := by omega
    subst hc
    subst hm
    have hy : ys = [] := List.length_eq_zero_iff.1 hl
    refine any_append_none w ho hr hw s x _ hop base 3 i0 1 Try.underlying22 hi0 v n _ hs hown hx (h v w ?_ ⟨rfl, rfl, rfl, Nat.le_refl _, fun _ _ _ => rfl⟩)
    rw [hy, List.append_nil]; exact hown
  | some ad =>
    refine any_append_g w ho hr hw s x _ hop base 3 i0 (.int .i64 0) 1 8 Try.underlying22 hi0 hz0 hz1 hz2 rfl (by decide) v n _ hs hown ad m c (ys.map (Value.int .i64)) hx (by rw [List.length_map, hl]; omega) hN.news (by intro u hu; obtain ⟨z, _, rfl⟩ := List.mem_map.1 hu; rfl) (by unfold maxLen; omega) (by omega) hbase ?_
    intro v' w' ho' hg' _ _
    refine h v' w' ?_ hg'
    rw [List.map_append]; exact ho'
end
end Go.Proofs.Ythbpoagkfpalfaa
