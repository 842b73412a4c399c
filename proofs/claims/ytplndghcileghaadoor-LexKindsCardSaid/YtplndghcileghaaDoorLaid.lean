/-
  A world in which the listed variables hold what the program's text lays.
-/
import Derived.Test.YtplndghcileghaaDoorRows
import Derived.WalkKit
import Derived.ProofKit
import Derived.Deep.DeepHandedRow
import Derived.Deep.DeepWitnessRowRef
import Derived.Lib.LaidTab
import Derived.Deep.DeepLaidRun
namespace Go.Proofs.YtplndghcileghaaDoor
open Go.ChangeShapes Go.WideShapes Go.ChangeAt Go.RowKit

theorem laidOwn : ownKnob Tryd.prog.godebug = none := by kernel_rfl

/-- the cells of a plain table -/
def tabOf (d : DataW Unit) : Array Value := match d with
  | .agg l => (l.filterMap fun | .lit (.int k n) => some (Value.int k n) | _ => none).toArray
  | _ => #[]
/-- the text of a sentinel -/
def textOf (d : DataW Unit) : Array Value := match d with
  | .iface _ (.ptr (.agg [.lit (.string b)])) => #[.string ⟨b.toArray⟩]
  | _ => #[]
noncomputable def laidWorld (os : Os) : World :=
  let N := (World.settled Tryd.prog os).heap.size
  let w0 := World.holding Tryd.prog os ⟨#[.cells (textOf Rows.laid_strconv_ErrSyntax) 89, .cells (textOf Rows.laid_strconv_ErrRange) 89], #[], []⟩
  let put (h : Array Obj) (g : Nat) (cs : Array Value) : Array Obj := h.modify g fun
    | .cells _ t frozen => .cells cs t frozen
    | o => o
  let h0 := put (put w0.heap 0 #[.iface 87 (.pointer (some ⟨N, 0, none⟩))]) 1 #[.iface 87 (.pointer (some ⟨N + 1, 0, none⟩))]
  let h1 := put h0 3 (tabOf Rows.laid_internal_strconv_uint64pow10)
  let h2 := put h1 4 (tabOf Rows.laid_math_bits_deBruijn32tab)
  let h3 := put h2 5 (tabOf Rows.laid_math_bits_deBruijn64tab)
  { w0 with heap := h3 }
theorem laid_met (os : Os) (args : Array Value) : laidMet Tryd.prog Rows.lexReadsRow.laid ((laidWorld os).forCall (fun _ _ => 0) ⟨#[], args, []⟩).memory :=
  laidMet_of_run3 8 (by kernel_rfl) (by kernel_rfl) (by kernel_rfl)
end Go.Proofs.YtplndghcileghaaDoor
