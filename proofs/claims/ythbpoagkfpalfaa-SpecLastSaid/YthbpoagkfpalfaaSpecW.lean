/-
  SPEC: what the walks share.
-/
import Derived.Test.YthbpoagkfpalfaaRows
import Derived.ProofKit
import Derived.Deep.QuietTactic
import Derived.BigQuiet
import Derived.LoopTactic
import Derived.Test.YthbpoagkfpalfaaSpecH
import Derived.Test.YthbpoagkfpalfaaSpecP
import Derived.Test.YthbpoagkfpalfaaInts
namespace Go.Proofs.Ythbpoagkfpalfaa
open Go.ChangeShapes Go.WideShapes Go.ChangeAt Go.RowKit

theorem Nums.of_row {w : World} {a : Option Addr} {len cap : Nat} {zs : List Int} (h : IsRow .i64 w a len cap zs) : Nums w a cap (zs.take len) ∧ (zs.take len).length = len := by
  obtain ⟨h1, h2, h3⟩ := Ints.of_row h
  refine ⟨⟨⟨fun i hi => ?_⟩, ?_, ?_, ?_⟩, h2⟩
  · rw [List.length_map] at hi
    obtain ⟨b, off, g1, g2, g3⟩ := h1.cells i hi
    exact ⟨b, off, g1, g2, by rw [g3]; simp⟩
  · rcases h with ⟨_, h0, _, rfl⟩ | ⟨x, hx, g1, g2, g3, g4, g5⟩
    · simp
    · omega
  · rcases h with ⟨_, h0, hc, rfl⟩ | ⟨x, hx, g1, g2, g3, g4, g5⟩
    · omega
    · exact g2
  · rcases h with ⟨_, h0, hc, rfl⟩ | ⟨x, hx, g1, g2, g3, g4, g5⟩
    · intro _; exact hc
    · intro e; rw [hx] at e; cases e
theorem few_at (k : Int) (kn vn : Nat) (R : Bool) (h : decide (kn ≤ 100 ∧ vn ≤ 100) = R) (kp vp : Option Addr) (kc vc : Nat) (w : World) : Calls Try.prog 9 #[.agg #[.int .i64 k, .slice kp kn kc, .slice vp vn vc]] w fun e w' => e = .returned (.bool R) ∧ Below w.heap.size w w' := by
  have := few_any k kn vn kp vp kc vc w
  rw [h] at this; exact this
theorem cright_at (c : ContV) (R : Bool) (h : rightC c = R) (kn vn : Nat) (h1 : c.keys.length = kn) (h2 : c.vals.length = vn) (kp vp : Option Addr) (kc vc : Nat) (w : World) (a1 : Nums w kp kc c.keys) (l1 : kn ≤ 1000000) (l2 : vn ≤ 1000000) :
    Calls Try.prog 10 #[.agg #[.int .i64 c.kind, .slice kp kn kc, .slice vp vn vc]] w fun e w' => e = .returned (.bool R) ∧ Below w.heap.size w w' := by
  have := cright_any c kn vn h1 h2 kp vp kc vc w a1 l1 l2
  rw [h] at this; exact this
theorem same_at (c d : ContV) (R : Bool) (h : decide (c = d) = R) (kn vn kn2 vn2 : Nat) (h1 : c.keys.length = kn) (h2 : c.vals.length = vn) (h3 : d.keys.length = kn2) (h4 : d.vals.length = vn2) (kp vp kp2 vp2 : Option Addr) (kc vc kc2 vc2 : Nat) (w : World)
    (a1 : Nums w kp kc c.keys) (a2 : Nums w vp vc c.vals) (a3 : Nums w kp2 kc2 d.keys) (a4 : Nums w vp2 vc2 d.vals) (l1 : kn ≤ 1000000) (l2 : vn ≤ 1000000) (l3 : kn2 ≤ 1000000) (l4 : vn2 ≤ 1000000) :
    Calls Try.prog 12 #[.agg #[.int .i64 c.kind, .slice kp kn kc, .slice vp vn vc], .agg #[.int .i64 d.kind, .slice kp2 kn2 kc2, .slice vp2 vn2 vc2]] w fun e w' => e = .returned (.bool R) ∧ Below w.heap.size w w' := by
  have := same_any c d kn vn kn2 vn2 h1 h2 h3 h4 kp vp kp2 vp2 kc vc kc2 vc2 w a1 a2 a3 a4 l1 l2 l3 l4
  rw [h] at this; exact this
theorem comm_at (a b : OpV) (R : Bool) (h : comm a b = R) (w : World) : Calls Try.prog 13 #[.agg #[.int .i64 a.kind, .int .i64 a.obj, .int .i64 a.a, .int .i64 a.b], .agg #[.int .i64 b.kind, .int .i64 b.obj, .int .i64 b.a, .int .i64 b.b]] w fun e w' => e = .returned (.bool R) ∧ Below w.heap.size w w' := by
  have := comm_any a b w
  rw [h] at this; exact this
/-- a right content is as right after: what the walk of the law needs of the answer -/
theorem do_facts {c x : ContV} {o : OpV} {v : Int} {b : Bool} (h : rightC c = true) (hd : doC c o = (x, v, b)) : rightC x = true ∧ x.kind = c.kind ∧ x.vals.length ≤ c.vals.length + 1 ∧ c.vals.length ≤ x.vals.length + 1 ∧ x.keys.length ≤ c.keys.length + 1 ∧ (b = false → x = c ∧ v = 0) := by
  have h1 := doC_right h o
  have h2 := doC_kind c o
  have h3 := doC_size c o
  have h4 := doC_len c o
  rw [hd] at h1 h2 h3 h4
  refine ⟨h1, h2, h3.1, h3.2, h4.1, fun hb => ?_⟩
  subst hb
  have h5 := doC_false (c := c) (o := o) (by rw [hd])
  rw [hd] at h5
  simp only [Prod.mk.injEq, and_true] at h5
  exact h5
theorem all_two {c : ContV} (a b : OpV) (h : rightC c = true) (hc : comm a b = true) : ∃ ks vs t1 t2 b1 b2, allC c [a, b] = (⟨c.kind, ks, vs⟩, [t1, t2], [b1, b2]) ∧ allC c [b, a] = (⟨c.kind, ks, vs⟩, [t2, t1], [b2, b1]) ∧ ks.length ≤ c.keys.length + 2 ∧ vs.length ≤ c.vals.length + 2 := by
  obtain ⟨h1, h2, h3⟩ := commutes h a b hc
  have hk : (doC (doC c a).1 b).1.kind = c.kind := (doC_kind _ _).trans (doC_kind _ _)
  have l1 := doC_len c a
  have l2 := doC_len (doC c a).1 b
  obtain ⟨⟨k, ks, vs⟩, hx⟩ : ∃ x, (doC (doC c a).1 b).1 = x := ⟨_, rfl⟩
  rw [hx] at h1 hk l2
  dsimp only at hk l2
  subst hk
  refine ⟨ks, vs, (doC c a).2.1, (doC c b).2.1, (doC c a).2.2, (doC c b).2.2, ?_, ?_, by omega, by omega⟩
  · show ((doC (doC c a).1 b).1, [_, (doC (doC c a).1 b).2.1], [_, (doC (doC c a).1 b).2.2]) = _
    rw [hx, h3]
  · show ((doC (doC c b).1 a).1, [_, (doC (doC c b).1 a).2.1], [_, (doC (doC c b).1 a).2.2]) = _
    rw [← h1, ← h2]
theorem Nums.got {w : World} {g n : Nat} {xs : List Int} (h : Nums w (some ⟨g, 0, none⟩) n xs) (i : Nat) (x : Int) (hx : xs[i]? = some x) : g < w.heap.size ∧ w.cell? ⟨g, i, none⟩ = some (.int .i64 x) := by
  obtain ⟨hi, rfl⟩ := List.getElem?_eq_some_iff.1 hx
  obtain ⟨b, off, h1, h2, h3⟩ := h.at_ i hi
  simp only [Option.some.injEq, Addr.mk.injEq, and_true] at h1
  obtain ⟨rfl, rfl⟩ := h1
  rw [Nat.zero_add] at h3
  exact ⟨h2, h3⟩
theorem Bls.got {w : World} {g n : Nat} {xs : List Bool} (h : Bls w (some ⟨g, 0, none⟩) n xs) (i : Nat) (x : Bool) (hx : xs[i]? = some x) : g < w.heap.size ∧ w.cell? ⟨g, i, none⟩ = some (.bool x) := by
  obtain ⟨hi, rfl⟩ := List.getElem?_eq_some_iff.1 hx
  obtain ⟨b, off, h1, h2, h3⟩ := h.at_ i hi
  simp only [Option.some.injEq, Addr.mk.injEq, and_true] at h1
  obtain ⟨rfl, rfl⟩ := h1
  rw [Nat.zero_add] at h3
  exact ⟨h2, h3⟩
theorem of_at (k p : Int) (h : kindOf k = p) (w : World) : Calls Try.prog 14 #[.int .i64 k] w fun e w' => e = .returned (.int .i64 p) ∧ Below w.heap.size w w' :=
  (of_kind k w).mono fun e w' h1 => ⟨by rw [h1.1, h], by rw [h1.2]; exact Below.refl _ _⟩
theorem comm_false {a b : OpV} (h : comm a b = false) : kindOf a.kind = kindOf b.kind := by
  unfold comm at h
  rw [Bool.or_eq_false_iff] at h
  simpa using h.1
end Go.Proofs.Ythbpoagkfpalfaa
