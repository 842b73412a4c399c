/-
  No cell of these rows narrows 'for every input' (looked for: loops, veiled, ifaces, maps, wideKeys, modest, calm, conditions, laid).
  DERIVED. THE GIVEN ROWS OF THIS SEAT. 5 by the template 'for every input the law returns true; each argument reads behind the call as it read before'; 0 by the template 'total and deterministic' (their statements: YtpikiehipeecoaaTotals.lean).
  GIVEN WITH THE SEED: the statements are not yours to turn. If you find one false, say at which input.
  Laid BY PROGRAM, IN A SANDBOX (cutbox-rows.mjs): the forced cells as the released guide's own fill.sh prints them over the translation 8ca804a50abcd1f1… (all of the seat's roots in one cut). By AI agents, Wed Nov 11 2026. No macro, syntax, notation, axiom, sorry.
-/
import Derived.Test.YtpikiehipeecoaaChecked
import GoSem.Claim
import GoSem.ClaimJoined
import GoSem.ClaimMapViews
import Derived.JoinedTies
import Derived.KernelRfl
namespace Go.Proofs.Ytpikiehipeecoaa
/- THE CELL 'sum', in the pinned program and in every row, IS THE sha256 OF THE DUMP (.gsa) THAT YtpikiehipeecoaaProg.lean LOADS. Nothing in Lean hashes anything: it is a label: what it is worth is what the hold of that sum in a sandbox is worth. -/
noncomputable def Try.pinned : Pinned := { name := "ytpikiehipeecoaa", sum := "8ca804a50abcd1f1c58049cba14d62edfb0f211d3b93de7078c875850fdd046d", checked := Try.checked }
namespace Rows
def none {H : Type} : Left H := { results := [], args := [] }

/-- 'underwoodlaw11.OmRow': WHATEVER THE INPUT: true; the input reads as it did. -/
def omRowSpec : ChangeSpec := { name := "omRow", fn := fun _ => fun
  | [d] => { results := [.lit (.bool true)], args := [d] }
  | _ => none }
def omRowRow : OpenClaim := { program := "ytpikiehipeecoaa", sum := "8ca804a50abcd1f1c58049cba14d62edfb0f211d3b93de7078c875850fdd046d", func := "underwood/underwoodlaw11.OmRow", spec := "omRow", unfollowed := true, recurses := true, apart := false }
def OmRowSaid : Prop := omRowRow.holds Try.pinned (OpenSpec.ofChange omRowSpec)

/-- ITS FALSE NEIGHBOUR: 'it returns false'. Refute it at one input. -/
def omRowWrong : ChangeSpec := { name := "omRow", fn := fun _ => fun
  | [d] => { results := [.lit (.bool false)], args := [d] }
  | _ => none }
def OmRowWrongFalsely : Prop := omRowRow.holds Try.pinned (OpenSpec.ofChange omRowWrong)

/-- 'underwoodlaw11.OmTotal': WHATEVER THE INPUT: true; the input reads as it did. -/
def omTotalSpec : ChangeSpec := { name := "omTotal", fn := fun _ => fun
  | [d] => { results := [.lit (.bool true)], args := [d] }
  | _ => none }
def omTotalRow : OpenClaim := { program := "ytpikiehipeecoaa", sum := "8ca804a50abcd1f1c58049cba14d62edfb0f211d3b93de7078c875850fdd046d", func := "underwood/underwoodlaw11.OmTotal", spec := "omTotal", unfollowed := true, recurses := true, apart := false }
def OmTotalSaid : Prop := omTotalRow.holds Try.pinned (OpenSpec.ofChange omTotalSpec)

/-- ITS FALSE NEIGHBOUR: 'it returns false'. Refute it at one input. -/
def omTotalWrong : ChangeSpec := { name := "omTotal", fn := fun _ => fun
  | [d] => { results := [.lit (.bool false)], args := [d] }
  | _ => none }
def OmTotalWrongFalsely : Prop := omTotalRow.holds Try.pinned (OpenSpec.ofChange omTotalWrong)

/-- 'underwoodlaw11.OmKeeps': WHATEVER THE INPUT: true; the input reads as it did. -/
def omKeepsSpec : ChangeSpec := { name := "omKeeps", fn := fun _ => fun
  | [d1, d2] => { results := [.lit (.bool true)], args := [d1, d2] }
  | _ => none }
def omKeepsRow : OpenClaim := { program := "ytpikiehipeecoaa", sum := "8ca804a50abcd1f1c58049cba14d62edfb0f211d3b93de7078c875850fdd046d", func := "underwood/underwoodlaw11.OmKeeps", spec := "omKeeps", unfollowed := true, recurses := true, apart := false }
def OmKeepsSaid : Prop := omKeepsRow.holds Try.pinned (OpenSpec.ofChange omKeepsSpec)

/-- ITS FALSE NEIGHBOUR: 'it returns false'. Refute it at one input. -/
def omKeepsWrong : ChangeSpec := { name := "omKeeps", fn := fun _ => fun
  | [d1, d2] => { results := [.lit (.bool false)], args := [d1, d2] }
  | _ => none }
def OmKeepsWrongFalsely : Prop := omKeepsRow.holds Try.pinned (OpenSpec.ofChange omKeepsWrong)

/-- 'underwoodlaw11.OmSeldom': WHATEVER THE INPUT: true; the input reads as it did. -/
def omSeldomSpec : ChangeSpec := { name := "omSeldom", fn := fun _ => fun
  | [d1, d2] => { results := [.lit (.bool true)], args := [d1, d2] }
  | _ => none }
def omSeldomRow : OpenClaim := { program := "ytpikiehipeecoaa", sum := "8ca804a50abcd1f1c58049cba14d62edfb0f211d3b93de7078c875850fdd046d", func := "underwood/underwoodlaw11.OmSeldom", spec := "omSeldom", unfollowed := true, recurses := true, apart := false }
def OmSeldomSaid : Prop := omSeldomRow.holds Try.pinned (OpenSpec.ofChange omSeldomSpec)

/-- ITS FALSE NEIGHBOUR: 'it returns false'. Refute it at one input. -/
def omSeldomWrong : ChangeSpec := { name := "omSeldom", fn := fun _ => fun
  | [d1, d2] => { results := [.lit (.bool false)], args := [d1, d2] }
  | _ => none }
def OmSeldomWrongFalsely : Prop := omSeldomRow.holds Try.pinned (OpenSpec.ofChange omSeldomWrong)

/-- 'underwoodlaw11.OmFull': WHATEVER THE INPUT: true; the input reads as it did. -/
def omFullSpec : ChangeSpec := { name := "omFull", fn := fun _ => fun
  | [d1, d2] => { results := [.lit (.bool true)], args := [d1, d2] }
  | _ => none }
def omFullRow : OpenClaim := { program := "ytpikiehipeecoaa", sum := "8ca804a50abcd1f1c58049cba14d62edfb0f211d3b93de7078c875850fdd046d", func := "underwood/underwoodlaw11.OmFull", spec := "omFull", unfollowed := true, recurses := true, apart := false }
def OmFullSaid : Prop := omFullRow.holds Try.pinned (OpenSpec.ofChange omFullSpec)

/-- ITS FALSE NEIGHBOUR: 'it returns false'. Refute it at one input. -/
def omFullWrong : ChangeSpec := { name := "omFull", fn := fun _ => fun
  | [d1, d2] => { results := [.lit (.bool false)], args := [d1, d2] }
  | _ => none }
def OmFullWrongFalsely : Prop := omFullRow.holds Try.pinned (OpenSpec.ofChange omFullWrong)

/- THE SECOND FORM. 'bulk': how many values and letters a reading holds, each counted each time it is reached (what is shared counts as often as it is met; a slice's spare places count too). A statement '..UptoSaid' is the law's where the arguments, and the package variables that the reading takes, are together of bulk at most 1048576: NARROWER than '..Said'. Prove '..Said' where nothing that the law and all that it calls make is longer than what came in: it says more and counts as full. Else prove '..UptoSaid'. A law counts once. -/
mutual
def uptoBulk {H : Type} : DataW H → Nat
  | .lit (.string bytes) => bytes.length + 1
  | .lit _ => 1
  | .nil => 1
  | .ptr d => uptoBulk d + 1
  | .slice elems spare => uptoBulkAll elems + uptoBulkAll spare + 1
  | .agg parts => uptoBulkAll parts + 1
  | .iface _ d => uptoBulk d + 1
  | .map entries => uptoBulkEntries entries + 1
  | .held _ => 1
def uptoBulkAll {H : Type} : List (DataW H) → Nat
  | [] => 0
  | d :: r => uptoBulk d + uptoBulkAll r
def uptoBulkEntries {H : Type} : List (Lit × DataW H) → Nat
  | [] => 0
  | x :: r => uptoBulkEntry x + uptoBulkEntries r
def uptoBulkEntry {H : Type} : Lit × DataW H → Nat
  | (.string bytes, d) => bytes.length + uptoBulk d + 1
  | (_, d) => uptoBulk d + 1
 end
def uptoSmall : (H : Type) → List (DataW H) → Bool := fun _ ds => decide (uptoBulkAll ds ≤ 1048576)
def OpenSpec.upto (s : _root_.Go.ChangeSpec) : _root_.Go.OpenSpec := { _root_.Go.OpenSpec.ofChange s with cond := some uptoSmall }

/-- 'underwoodlaw11.OmRow', WHERE WHAT IT READS IS OF BULK AT MOST 1048576: true; the input reads as it did. -/
def omRowUptoRow : OpenClaim := { program := "ytpikiehipeecoaa", sum := "8ca804a50abcd1f1c58049cba14d62edfb0f211d3b93de7078c875850fdd046d", func := "underwood/underwoodlaw11.OmRow", spec := "omRow", unfollowed := true, recurses := true, apart := false, narrowed := true }
def OmRowUptoSaid : Prop := omRowUptoRow.holds Try.pinned (OpenSpec.upto omRowSpec)

/-- 'underwoodlaw11.OmTotal', WHERE WHAT IT READS IS OF BULK AT MOST 1048576: true; the input reads as it did. -/
def omTotalUptoRow : OpenClaim := { program := "ytpikiehipeecoaa", sum := "8ca804a50abcd1f1c58049cba14d62edfb0f211d3b93de7078c875850fdd046d", func := "underwood/underwoodlaw11.OmTotal", spec := "omTotal", unfollowed := true, recurses := true, apart := false, narrowed := true }
def OmTotalUptoSaid : Prop := omTotalUptoRow.holds Try.pinned (OpenSpec.upto omTotalSpec)

/-- 'underwoodlaw11.OmKeeps', WHERE WHAT IT READS IS OF BULK AT MOST 1048576: true; the input reads as it did. -/
def omKeepsUptoRow : OpenClaim := { program := "ytpikiehipeecoaa", sum := "8ca804a50abcd1f1c58049cba14d62edfb0f211d3b93de7078c875850fdd046d", func := "underwood/underwoodlaw11.OmKeeps", spec := "omKeeps", unfollowed := true, recurses := true, apart := false, narrowed := true }
def OmKeepsUptoSaid : Prop := omKeepsUptoRow.holds Try.pinned (OpenSpec.upto omKeepsSpec)

/-- 'underwoodlaw11.OmSeldom', WHERE WHAT IT READS IS OF BULK AT MOST 1048576: true; the input reads as it did. -/
def omSeldomUptoRow : OpenClaim := { program := "ytpikiehipeecoaa", sum := "8ca804a50abcd1f1c58049cba14d62edfb0f211d3b93de7078c875850fdd046d", func := "underwood/underwoodlaw11.OmSeldom", spec := "omSeldom", unfollowed := true, recurses := true, apart := false, narrowed := true }
def OmSeldomUptoSaid : Prop := omSeldomUptoRow.holds Try.pinned (OpenSpec.upto omSeldomSpec)

/-- 'underwoodlaw11.OmFull', WHERE WHAT IT READS IS OF BULK AT MOST 1048576: true; the input reads as it did. -/
def omFullUptoRow : OpenClaim := { program := "ytpikiehipeecoaa", sum := "8ca804a50abcd1f1c58049cba14d62edfb0f211d3b93de7078c875850fdd046d", func := "underwood/underwoodlaw11.OmFull", spec := "omFull", unfollowed := true, recurses := true, apart := false, narrowed := true }
def OmFullUptoSaid : Prop := omFullUptoRow.holds Try.pinned (OpenSpec.upto omFullSpec)

end Rows
end Go.Proofs.Ytpikiehipeecoaa
