/-
  LAYOUT: two layouts compared; Right.
-/
import Derived.Test.YtbaeckehchpfaaaRows
import Derived.ProofKit
import Derived.Laws.StructEq
import Derived.Test.YtbaeckehchpfaaaLayI
namespace Go.Proofs.Ytbaeckehchpfaaa
open Go.ChangeShapes Go.WideShapes Go.ChangeAt Go.RowKit

/-- so many cells, each a number -/
def IntCells (xs : Array Value) (n : Nat) : Prop := xs.size = n ∧ ∀ j, j < n → ∃ a, xs[j]? = some (.int .i64 a)

def cellEq (xs ys : Array Value) (j : Nat) : Bool := match xs[j]?, ys[j]? with
  | some (.int _ a), some (.int _ b) => a == b
  | _, _ => false

theorem intU : Try.prog.underlying 3 = some (.int .i64) := by kernel_rfl

theorem part_int (xs : Array Value) (j : Nat) (a : Int) (h : xs[j]? = some (.int .i64 a)) (w : World) : (part 3 xs j).run Try.prog w = .ok (.int .i64 a) w := by
  simp [part, isAgg, run_underlying intU, h]

theorem eq_fields (d : Nat) (xs ys : Array Value) (w : World) : ∀ fs : List Field, (∀ f ∈ fs, f.type = 3 ∧ f.name ≠ "_" ∧ ∃ a b, xs[f.offset]? = some (.int .i64 a) ∧ ys[f.offset]? = some (.int .i64 b)) →
    (Op.eqFields (d + 1) xs ys fs).run Try.prog w = .ok (fs.all fun f => cellEq xs ys f.offset) w
  | [], _ => by simp [Op.eqFields]
  | f :: fs, h => by
    obtain ⟨h1, h2, a, b, h3, h4⟩ := h f (by simp)
    have ih := eq_fields d xs ys w fs fun g hg => h g (by simp [hg])
    have hc : cellEq xs ys f.offset = (a == b) := by unfold cellEq; rw [h3, h4]
    have p1 := part_int xs f.offset a h3 w
    have p2 := part_int ys f.offset b h4 w
    have pe := run_equalIn_int (P := Try.prog) w d 3 .i64 .i64 a b intU
    simp only [Op.eqFields, h1, h2, ne_eq, not_false_eq_true, if_true, Sem.run_bind, p1, p2, pe, Result.andThen_ok]
    rw [List.all_cons, hc]
    cases hab : (a == b) with
    | true => simp; exact ih
    | false => simp

def confFieldsB (l : List Field) (i : TypeId) : Bool := l.all (fun f => f.type == i && (f.name != "_" && decide (f.offset < 9))) && (List.range 9).all fun j => l.any fun f => f.offset == j
def layFieldsB (l : List Field) (i c : TypeId) : Bool := match l with
  | [] => false
  | f :: r => f.type == c && (f.offset == 0 && (f.name != "_" && (r.all (fun f => f.type == i && (f.name != "_" && decide (f.offset < 25))) && (List.range 16).all fun j => r.any fun f => f.offset == 9 + j)))

theorem confFields_ok : confFieldsB (Try.prog.fieldsOf 23).toList 3 = true := by kernel_rfl
theorem layFields_ok : layFieldsB (Try.prog.fieldsOf 26).toList 3 23 = true := by kernel_rfl
theorem confU : Try.prog.underlying 23 = some (.struct (Try.prog.fieldsOf 23)) := by kernel_rfl
theorem confHeld : Try.prog.stoodInHeld 23 = false := by kernel_rfl
theorem layHeld : Try.prog.stoodInHeld 26 = false := by kernel_rfl
theorem conf9 : (Try.prog.info? 23).map (·.size) = some 9 := by kernel_rfl
theorem layGuard : Try.prog.eqGuardType Try.prog.depth 26 = false := by kernel_rfl
theorem confGuard : Try.prog.eqGuardType Try.prog.depth 23 = false := by kernel_rfl

theorem conf_eqIn (d : Nat) (xs ys : Array Value) (hx : IntCells xs 9) (hy : IntCells ys 9) (w : World) : ∃ r, (Op.equalIn (d + 2) 23 (.agg xs) (.agg ys)).run Try.prog w = .ok r w ∧ (r = true ↔ ∀ j, j < 9 → cellEq xs ys j = true) := by
  have hok := confFields_ok
  unfold confFieldsB at hok
  rw [Bool.and_eq_true, List.all_eq_true, List.all_eq_true] at hok
  refine ⟨_, (run_equalIn_agg (P := Try.prog) w (d + 1) 23 xs ys confU confHeld).trans (eq_fields d xs ys w _ fun f hf => ?_), ?_⟩
  · have h1 := hok.1 f hf
    simp only [Bool.and_eq_true, beq_iff_eq, bne_iff_ne, decide_eq_true_eq] at h1
    obtain ⟨a, ha⟩ := hx.2 f.offset h1.2.2
    obtain ⟨b, hb⟩ := hy.2 f.offset h1.2.2
    exact ⟨h1.1, h1.2.1, a, b, ha, hb⟩
  · rw [List.all_eq_true]
    constructor
    · intro h j hj
      obtain ⟨f, hf, he⟩ := List.any_eq_true.1 (hok.2 j (by simpa using hj))
      have := h f hf
      rw [beq_iff_eq] at he
      rwa [he] at this
    · intro h f hf
      have h1 := hok.1 f hf
      simp only [Bool.and_eq_true, decide_eq_true_eq] at h1
      exact h f.offset h1.2.2

theorem cellEq_extract (xs ys : Array Value) (j : Nat) (h : j < 9) : cellEq (xs.extract 0 9) (ys.extract 0 9) j = cellEq xs ys j := by
  have e : ∀ zs : Array Value, (zs.extract 0 9)[j]? = zs[j]? := fun zs => by
    rw [Array.getElem?_extract]; simp; omega
  unfold cellEq; rw [e, e]

theorem lay_eqIn (xs ys : Array Value) (hx : IntCells xs 25) (hy : IntCells ys 25) (w : World) : ∃ r, (Op.equalIn 10000 26 (.agg xs) (.agg ys)).run Try.prog w = .ok r w ∧ (r = true ↔ ∀ j, j < 25 → cellEq xs ys j = true) := by
  have hok := layFields_ok
  unfold layFieldsB at hok
  have hR := run_equalIn_agg (P := Try.prog) w 9999 26 xs ys layFields layHeld
  cases hl : (Try.prog.fieldsOf 26).toList with
  | nil => rw [hl] at hok; exact absurd hok Bool.false_ne_true
  | cons f r =>
    rw [hl] at hok hR
    simp only [Bool.and_eq_true, beq_iff_eq, bne_iff_ne, List.all_eq_true] at hok
    obtain ⟨k1, k2, k3, k4, k5⟩ := hok
    have hsz : ∀ zs : Array Value, IntCells zs 25 → IntCells (zs.extract 0 9) 9 := fun zs hz => ⟨by simp [hz.1], fun j hj => by
      obtain ⟨a, ha⟩ := hz.2 j (by omega)
      refine ⟨a, ?_⟩
      rw [Array.getElem?_extract]; simp [hz.1]; exact ⟨hj, ha⟩⟩
    obtain ⟨rc, h1, h2⟩ := conf_eqIn 9997 (xs.extract 0 9) (ys.extract 0 9) (hsz xs hx) (hsz ys hy) w
    obtain ⟨i0, hi0, hs0⟩ : ∃ i, Try.prog.info? 23 = some i ∧ i.size = 9 := by
      have := conf9
      cases hi : Try.prog.info? 23 with
      | none => rw [hi] at this; simp at this
      | some i => rw [hi] at this; exact ⟨i, rfl, by simpa using this⟩
    have pc : ∀ zs : Array Value, (part 23 zs 0).run Try.prog w = .ok (.agg (zs.extract 0 9)) w := fun zs => by
      simp [part, isAgg, run_underlying confU, run_sizeOf w hi0, hs0]
    have hrest := eq_fields 9998 xs ys w r fun g hg => by
      have h3 := k4 g hg
      simp only [decide_eq_true_eq] at h3
      obtain ⟨a, ha⟩ := hx.2 g.offset h3.2.2
      obtain ⟨b, hb⟩ := hy.2 g.offset h3.2.2
      exact ⟨h3.1, h3.2.1, a, b, ha, hb⟩
    refine ⟨rc && r.all fun g => cellEq xs ys g.offset, ?_, ?_⟩
    · rw [hR]
      simp only [Op.eqFields, k1, k2, k3, ne_eq, not_false_eq_true, if_true, Sem.run_bind, pc, h1, Result.andThen_ok]
      cases rc with
      | true => simp; exact hrest
      | false => simp
    · rw [Bool.and_eq_true, h2, List.all_eq_true]
      constructor
      · rintro ⟨g1, g2⟩ j hj
        by_cases h9 : j < 9
        · rw [← cellEq_extract xs ys j h9]; exact g1 j h9
        · obtain ⟨g, hg, he⟩ := List.any_eq_true.1 (k5 (j - 9) (by simp; omega))
          rw [beq_iff_eq] at he
          have := g2 g hg
          rwa [he, show 9 + (j - 9) = j by omega] at this
      · intro h
        refine ⟨fun j hj => by rw [cellEq_extract xs ys j hj]; exact h j (by omega), fun g hg => ?_⟩
        have h3 := k4 g hg
        simp only [decide_eq_true_eq] at h3
        exact h g.offset h3.2.2

theorem cellEq_self (xs : Array Value) (n j : Nat) (h : IntCells xs n) (hj : j < n) : cellEq xs xs j = true := by
  obtain ⟨a, ha⟩ := h.2 j hj
  unfold cellEq; rw [ha]; simp

theorem lay_same (xs : Array Value) (hx : IntCells xs 25) (w : World) : (Op.equalIn 10000 26 (.agg xs) (.agg xs)).run Try.prog w = .ok true w := by
  obtain ⟨r, h1, h2⟩ := lay_eqIn xs xs hx hx w
  rw [h1, h2.2 fun j hj => cellEq_self xs 25 j hx hj]

theorem lay_other (xs ys : Array Value) (hx : IntCells xs 25) (hy : IntCells ys 25) (j : Nat) (a b : Int) (hj : j < 25) (ha : xs[j]? = some (.int .i64 a)) (hb : ys[j]? = some (.int .i64 b)) (hab : a ≠ b) (w : World) : (Op.equalIn 10000 26 (.agg xs) (.agg ys)).run Try.prog w = .ok false w := by
  obtain ⟨r, h1, h2⟩ := lay_eqIn xs ys hx hy w
  rw [h1]
  cases r with
  | false => rfl
  | true =>
    have := (h2.1 rfl) j hj
    unfold cellEq at this
    rw [ha, hb] at this
    simp at this
    exact absurd this hab

theorem conf_same (xs : Array Value) (hx : IntCells xs 9) (w : World) : (Op.equalIn 10000 23 (.agg xs) (.agg xs)).run Try.prog w = .ok true w := by
  obtain ⟨r, h1, h2⟩ := conf_eqIn 9998 xs xs hx hx w
  rw [h1, h2.2 fun j hj => cellEq_self xs 9 j hx hj]

theorem confC_cells (s n b sl t ce ma st ch : Int) : IntCells (confC s n b sl t ce ma st ch) 9 := by
  refine ⟨rfl, fun j hj => ?_⟩
  unfold confC
  rcases (show j = 0 ∨ j = 1 ∨ j = 2 ∨ j = 3 ∨ j = 4 ∨ j = 5 ∨ j = 6 ∨ j = 7 ∨ j = 8 by omega) with rfl | rfl | rfl | rfl | rfl | rfl | rfl | rfl | rfl
  all_goals exact ⟨_, rfl⟩

theorem layC_cells (s n b sl t ce ma st ch o1 o2 o3 o4 o5 o6 o7 o8 o9 o10 o11 : Int) : IntCells (layC s n b sl t ce ma st ch o1 o2 o3 o4 o5 o6 o7 o8 o9 o10 o11) 25 := by
  refine ⟨rfl, fun j hj => ?_⟩
  unfold layC
  rcases (show j = 0 ∨ j = 1 ∨ j = 2 ∨ j = 3 ∨ j = 4 ∨ j = 5 ∨ j = 6 ∨ j = 7 ∨ j = 8 ∨ j = 9 ∨ j = 10 ∨ j = 11 ∨ j = 12 ∨ j = 13 ∨ j = 14 ∨ j = 15 ∨ j = 16 ∨ j = 17 ∨ j = 18 ∨ j = 19 ∨ j = 20 ∨ j = 21 ∨ j = 22 ∨ j = 23 ∨ j = 24 by omega) with rfl | rfl | rfl | rfl | rfl | rfl | rfl | rfl | rfl | rfl | rfl | rfl | rfl | rfl | rfl | rfl | rfl | rfl | rfl | rfl | rfl | rfl | rfl | rfl | rfl
  all_goals exact ⟨_, rfl⟩
theorem zeroL_cells : IntCells zeroL 25 := by
  refine ⟨rfl, fun j hj => ⟨0, ?_⟩⟩
  unfold zeroL
  rcases (show j = 0 ∨ j = 1 ∨ j = 2 ∨ j = 3 ∨ j = 4 ∨ j = 5 ∨ j = 6 ∨ j = 7 ∨ j = 8 ∨ j = 9 ∨ j = 10 ∨ j = 11 ∨ j = 12 ∨ j = 13 ∨ j = 14 ∨ j = 15 ∨ j = 16 ∨ j = 17 ∨ j = 18 ∨ j = 19 ∨ j = 20 ∨ j = 21 ∨ j = 22 ∨ j = 23 ∨ j = 24 by omega) with rfl | rfl | rfl | rfl | rfl | rfl | rfl | rfl | rfl | rfl | rfl | rfl | rfl | rfl | rfl | rfl | rfl | rfl | rfl | rfl | rfl | rfl | rfl | rfl | rfl <;> rfl
end Go.Proofs.Ytbaeckehchpfaaa
