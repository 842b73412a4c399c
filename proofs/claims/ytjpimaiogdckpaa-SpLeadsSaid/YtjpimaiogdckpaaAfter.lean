/-
  REGIONS THAT DRAW THEIR ORDER AND HOLD CALLS THAT MAKE MEMORY, but write nothing that was there: one walk in the order of the text, by the library's rule for a class of worlds (Derived/Deep/Quiet), at the class 'all that was there is as it was'.
-/
import Derived.WalkKit
import Derived.WalkSmall
import Derived.Deep.QuietTactic
import Derived.BigQuiet
import Derived.Below
import Derived.Lib.Hide
namespace Go.Proofs.Ytjpimaiogdckpaa
open Go.RowKit

/-- a world in which all that lay in W is as it was -/
def After (W : World) : Type := { w' : World // Below W.heap.size W w' }
def After.w {W : World} (x : After W) : World := x.1
instance After.inhabited (W : World) : Nonempty (After W) := ⟨⟨W, Below.refl _ _⟩⟩

theorem below_trans {w w1 w2 : World} (h1 : Below w.heap.size w w1) (h2 : Below w1.heap.size w1 w2) : Below w.heap.size w w2 := h1.trans (h2.mono h1.size)

theorem bel_alloc {w x : World} (h : Below w.heap.size w x) (o : Obj) : Below w.heap.size w (x.alloc o) := h.alloc h.size o
theorem bel_drew {w x : World} (h : Below w.heap.size w x) : Below w.heap.size w x.drew := h.drew
theorem bel_set {w x : World} (h : Below w.heap.size w x) (b o : Nat) (v : Value) (hb : w.heap.size ≤ b) : Below w.heap.size w (x.setCell ⟨b, o, none⟩ v) := h.setCell hb v

theorem below_of (wr : World) {wx w3 : World} (h : Below wx.heap.size wx w3) (hb : Below wr.heap.size wr wx) : Below wr.heap.size wr w3 := hb.trans (h.mono hb.size)

theorem After.bel {W : World} (x : After W) : Below W.heap.size W x.w := x.2
theorem After.cell {W : World} (x : After W) {b o : Nat} (h : b < W.heap.size) : x.w.cell? ⟨b, o, none⟩ = W.cell? ⟨b, o, none⟩ := x.2.cell (p := ⟨b, o, none⟩) h
theorem After.frozen {W : World} (x : After W) {b o : Nat} (h : b < W.heap.size) : x.w.frozen? ⟨b, o, none⟩ = W.frozen? ⟨b, o, none⟩ := x.2.frozen (p := ⟨b, o, none⟩) h

/-- what lay in W reads, behind a call, as it did: two rules for the walk -/
theorem bcell {B : Nat} {W w1 : World} (hb : Below B W w1) : (∀ b o, b < B → w1.cell? ⟨b, o, none⟩ = W.cell? ⟨b, o, none⟩) ∧ (∀ b o, b < B → w1.frozen? ⟨b, o, none⟩ = W.frozen? ⟨b, o, none⟩) :=
  ⟨fun b o h => hb.cell (p := ⟨b, o, none⟩) h, fun b o h => hb.frozen (p := ⟨b, o, none⟩) h⟩

theorem calls_after {P : Program} {f : FuncId} {args : Array Value} {W : World} {x : After W} {v : Value}
    (h : Calls P f args x.w fun e w' => e = .returned v ∧ Below x.w.heap.size x.w w') : Calls P f args x.w fun e w'' => e = .returned v ∧ ∃ y : After W, w'' = y.w :=
  h.mono fun _ w'' ⟨he, hb⟩ => ⟨he, ⟨w'', below_trans x.2 hb⟩, rfl⟩
theorem calls_after_same {P : Program} {f : FuncId} {args : Array Value} {W : World} {x : After W} {v : Value}
    (h : Calls P f args x.w fun e w' => e = .returned v ∧ x.w = w') : Calls P f args x.w fun e w'' => e = .returned v ∧ ∃ y : After W, w'' = y.w :=
  h.mono fun _ w'' ⟨he, hb⟩ => ⟨he, x, hb.symm⟩

theorem wp_region_after {P : Program} {id : Nat} {Q : Exit → Act → World → Prop} {a : Act} {w : World} {l : List Oper} (hm : P.follows .mixedOrders = true) (hB : Region.lexB .any l.toArray = true)
    (h : wpQuiet P l.toArray (fun w' => ∃ x : After w, w' = x.w) (fun a' => ∀ w', (∃ x : After w, w' = x.w) → Q .normal a' w') l a) : (Code.region id l.toArray true).wp P Q a w :=
  wp_region_quiet (C := fun w' => ∃ x : After w, w' = x.w) hm hB ⟨⟨w.drew, (Below.refl _ _).drew⟩, rfl⟩ (by simpa using h)

end Go.Proofs.Ytjpimaiogdckpaa
