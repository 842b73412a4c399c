/-
  No cell of these rows narrows 'for every input' (looked for: loops, veiled, ifaces, maps, wideKeys, modest, calm, conditions, laid).
  DERIVED. THE GIVEN ROWS OF THIS SEAT. 5 by the template 'for every input the law returns true; each argument reads behind the call as it read before'; 0 by the template 'total and deterministic' (their statements: YtjpimaiogdckpaaTotals.lean).
  GIVEN WITH THE SEED: the statements are not yours to turn. If you find one false, say at which input.
  Laid BY PROGRAM, IN A SANDBOX (cutbox-rows.mjs): the forced cells as the released guide's own fill.sh prints them over the translation 7dfe9afb12c89ef3… (all of the seat's roots in one cut). By AI agents, Wed Nov 11 2026. No macro, syntax, notation, axiom, sorry.
-/
import Derived.Test.YtjpimaiogdckpaaChecked
import GoSem.Claim
import GoSem.ClaimJoined
import GoSem.ClaimMapViews
import Derived.JoinedTies
import Derived.KernelRfl
namespace Go.Proofs.Ytjpimaiogdckpaa
/- THE CELL 'sum', in the pinned program and in every row, IS THE sha256 OF THE DUMP (.gsa) THAT YtjpimaiogdckpaaProg.lean LOADS. Nothing in Lean hashes anything: it is a label: what it is worth is what the hold of that sum in a sandbox is worth. -/
noncomputable def Try.pinned : Pinned := { name := "ytjpimaiogdckpaa", sum := "7dfe9afb12c89ef3fa0f0440ce8b5343966b12492cbcd41872b472cfc7cc3b9e", checked := Try.checked }
namespace Rows
def none {H : Type} : Left H := { results := [], args := [] }

/-- 'underwoodlaw12.SpLeads': WHATEVER THE INPUT: true; the input reads as it did. -/
def spLeadsSpec : ChangeSpec := { name := "spLeads", fn := fun _ => fun
  | [d] => { results := [.lit (.bool true)], args := [d] }
  | _ => none }
def spLeadsRow : OpenClaim := { program := "ytjpimaiogdckpaa", sum := "7dfe9afb12c89ef3fa0f0440ce8b5343966b12492cbcd41872b472cfc7cc3b9e", func := "underwood/underwoodlaw12.SpLeads", spec := "spLeads", inPlace := ["slices.overlaps[int]"], unfollowed := true, recurses := true, apart := false }
def SpLeadsSaid : Prop := spLeadsRow.holds Try.pinned (OpenSpec.ofChange spLeadsSpec)

/-- ITS FALSE NEIGHBOUR: 'it returns false'. Refute it at one input. -/
def spLeadsWrong : ChangeSpec := { name := "spLeads", fn := fun _ => fun
  | [d] => { results := [.lit (.bool false)], args := [d] }
  | _ => none }
def SpLeadsWrongFalsely : Prop := spLeadsRow.holds Try.pinned (OpenSpec.ofChange spLeadsWrong)

/-- 'underwoodlaw12.SpEither': WHATEVER THE INPUT: true; the input reads as it did. -/
def spEitherSpec : ChangeSpec := { name := "spEither", fn := fun _ => fun
  | [d1, d2, d3, d4] => { results := [.lit (.bool true)], args := [d1, d2, d3, d4] }
  | _ => none }
def spEitherRow : OpenClaim := { program := "ytjpimaiogdckpaa", sum := "7dfe9afb12c89ef3fa0f0440ce8b5343966b12492cbcd41872b472cfc7cc3b9e", func := "underwood/underwoodlaw12.SpEither", spec := "spEither", inPlace := ["slices.overlaps[int]"], unfollowed := true, recurses := true, apart := false }
def SpEitherSaid : Prop := spEitherRow.holds Try.pinned (OpenSpec.ofChange spEitherSpec)

/-- ITS FALSE NEIGHBOUR: 'it returns false'. Refute it at one input. -/
def spEitherWrong : ChangeSpec := { name := "spEither", fn := fun _ => fun
  | [d1, d2, d3, d4] => { results := [.lit (.bool false)], args := [d1, d2, d3, d4] }
  | _ => none }
def SpEitherWrongFalsely : Prop := spEitherRow.holds Try.pinned (OpenSpec.ofChange spEitherWrong)

/-- 'underwoodlaw12.SpGrows': WHATEVER THE INPUT: true; the input reads as it did. -/
def spGrowsSpec : ChangeSpec := { name := "spGrows", fn := fun _ => fun
  | [d1, d2] => { results := [.lit (.bool true)], args := [d1, d2] }
  | _ => none }
def spGrowsRow : OpenClaim := { program := "ytjpimaiogdckpaa", sum := "7dfe9afb12c89ef3fa0f0440ce8b5343966b12492cbcd41872b472cfc7cc3b9e", func := "underwood/underwoodlaw12.SpGrows", spec := "spGrows", inPlace := ["slices.overlaps[int]"], unfollowed := true, recurses := true, apart := false }
def SpGrowsSaid : Prop := spGrowsRow.holds Try.pinned (OpenSpec.ofChange spGrowsSpec)

/-- ITS FALSE NEIGHBOUR: 'it returns false'. Refute it at one input. -/
def spGrowsWrong : ChangeSpec := { name := "spGrows", fn := fun _ => fun
  | [d1, d2] => { results := [.lit (.bool false)], args := [d1, d2] }
  | _ => none }
def SpGrowsWrongFalsely : Prop := spGrowsRow.holds Try.pinned (OpenSpec.ofChange spGrowsWrong)

/-- 'underwoodlaw12.SpSerial': WHATEVER THE INPUT: true; the input reads as it did. -/
def spSerialSpec : ChangeSpec := { name := "spSerial", fn := fun _ => fun
  | [d] => { results := [.lit (.bool true)], args := [d] }
  | _ => none }
def spSerialRow : OpenClaim := { program := "ytjpimaiogdckpaa", sum := "7dfe9afb12c89ef3fa0f0440ce8b5343966b12492cbcd41872b472cfc7cc3b9e", func := "underwood/underwoodlaw12.SpSerial", spec := "spSerial", inPlace := ["slices.overlaps[int]"], unfollowed := true, recurses := true, apart := false }
def SpSerialSaid : Prop := spSerialRow.holds Try.pinned (OpenSpec.ofChange spSerialSpec)

/-- ITS FALSE NEIGHBOUR: 'it returns false'. Refute it at one input. -/
def spSerialWrong : ChangeSpec := { name := "spSerial", fn := fun _ => fun
  | [d] => { results := [.lit (.bool false)], args := [d] }
  | _ => none }
def SpSerialWrongFalsely : Prop := spSerialRow.holds Try.pinned (OpenSpec.ofChange spSerialWrong)

/-- 'underwoodlaw12.SpDeep': WHATEVER THE INPUT: true; the input reads as it did. -/
def spDeepSpec : ChangeSpec := { name := "spDeep", fn := fun _ => fun
  | [d] => { results := [.lit (.bool true)], args := [d] }
  | _ => none }
def spDeepRow : OpenClaim := { program := "ytjpimaiogdckpaa", sum := "7dfe9afb12c89ef3fa0f0440ce8b5343966b12492cbcd41872b472cfc7cc3b9e", func := "underwood/underwoodlaw12.SpDeep", spec := "spDeep", inPlace := ["slices.overlaps[int]"], unfollowed := true, recurses := true, apart := false }
def SpDeepSaid : Prop := spDeepRow.holds Try.pinned (OpenSpec.ofChange spDeepSpec)

/-- ITS FALSE NEIGHBOUR: 'it returns false'. Refute it at one input. -/
def spDeepWrong : ChangeSpec := { name := "spDeep", fn := fun _ => fun
  | [d] => { results := [.lit (.bool false)], args := [d] }
  | _ => none }
def SpDeepWrongFalsely : Prop := spDeepRow.holds Try.pinned (OpenSpec.ofChange spDeepWrong)

/- THE SECOND FORM. 'bulk': how many values and letters a reading holds, each counted each time it is reached (what is shared counts as often as it is met; a slice's spare places count too). A statement '..UptoSaid' is the law's where the arguments, and the package variables that the reading takes, are together of bulk at most 1048576: NARROWER than '..Said'. Prove '..Said' where nothing that the law and all that it calls make is longer than what came in: it says more and counts as full. Else prove '..UptoSaid'. A law counts once. -/
mutual
def uptoBulk {H : Type} : DataW H → Nat
  | .lit (.string bytes) => bytes.length + 1
  | .lit _ => 1
  | .nil => 1
  | .ptr d => uptoBulk d + 1
  | .slice elems spare => uptoBulkAll elems + uptoBulkAll spare + 1
  | .agg parts => uptoBulkAll parts + 1
  | .iface _ d => uptoBulk d + 1
  | .map entries => uptoBulkEntries entries + 1
  | .held _ => 1
def uptoBulkAll {H : Type} : List (DataW H) → Nat
  | [] => 0
  | d :: r => uptoBulk d + uptoBulkAll r
def uptoBulkEntries {H : Type} : List (Lit × DataW H) → Nat
  | [] => 0
  | x :: r => uptoBulkEntry x + uptoBulkEntries r
def uptoBulkEntry {H : Type} : Lit × DataW H → Nat
  | (.string bytes, d) => bytes.length + uptoBulk d + 1
  | (_, d) => uptoBulk d + 1
 end
def uptoSmall : (H : Type) → List (DataW H) → Bool := fun _ ds => decide (uptoBulkAll ds ≤ 1048576)
def OpenSpec.upto (s : _root_.Go.ChangeSpec) : _root_.Go.OpenSpec := { _root_.Go.OpenSpec.ofChange s with cond := some uptoSmall }

/-- 'underwoodlaw12.SpLeads', WHERE WHAT IT READS IS OF BULK AT MOST 1048576: true; the input reads as it did. -/
def spLeadsUptoRow : OpenClaim := { program := "ytjpimaiogdckpaa", sum := "7dfe9afb12c89ef3fa0f0440ce8b5343966b12492cbcd41872b472cfc7cc3b9e", func := "underwood/underwoodlaw12.SpLeads", spec := "spLeads", inPlace := ["slices.overlaps[int]"], unfollowed := true, recurses := true, apart := false, narrowed := true }
def SpLeadsUptoSaid : Prop := spLeadsUptoRow.holds Try.pinned (OpenSpec.upto spLeadsSpec)

/-- 'underwoodlaw12.SpEither', WHERE WHAT IT READS IS OF BULK AT MOST 1048576: true; the input reads as it did. -/
def spEitherUptoRow : OpenClaim := { program := "ytjpimaiogdckpaa", sum := "7dfe9afb12c89ef3fa0f0440ce8b5343966b12492cbcd41872b472cfc7cc3b9e", func := "underwood/underwoodlaw12.SpEither", spec := "spEither", inPlace := ["slices.overlaps[int]"], unfollowed := true, recurses := true, apart := false, narrowed := true }
def SpEitherUptoSaid : Prop := spEitherUptoRow.holds Try.pinned (OpenSpec.upto spEitherSpec)

/-- 'underwoodlaw12.SpGrows', WHERE WHAT IT READS IS OF BULK AT MOST 1048576: true; the input reads as it did. -/
def spGrowsUptoRow : OpenClaim := { program := "ytjpimaiogdckpaa", sum := "7dfe9afb12c89ef3fa0f0440ce8b5343966b12492cbcd41872b472cfc7cc3b9e", func := "underwood/underwoodlaw12.SpGrows", spec := "spGrows", inPlace := ["slices.overlaps[int]"], unfollowed := true, recurses := true, apart := false, narrowed := true }
def SpGrowsUptoSaid : Prop := spGrowsUptoRow.holds Try.pinned (OpenSpec.upto spGrowsSpec)

/-- 'underwoodlaw12.SpSerial', WHERE WHAT IT READS IS OF BULK AT MOST 1048576: true; the input reads as it did. -/
def spSerialUptoRow : OpenClaim := { program := "ytjpimaiogdckpaa", sum := "7dfe9afb12c89ef3fa0f0440ce8b5343966b12492cbcd41872b472cfc7cc3b9e", func := "underwood/underwoodlaw12.SpSerial", spec := "spSerial", inPlace := ["slices.overlaps[int]"], unfollowed := true, recurses := true, apart := false, narrowed := true }
def SpSerialUptoSaid : Prop := spSerialUptoRow.holds Try.pinned (OpenSpec.upto spSerialSpec)

/-- 'underwoodlaw12.SpDeep', WHERE WHAT IT READS IS OF BULK AT MOST 1048576: true; the input reads as it did. -/
def spDeepUptoRow : OpenClaim := { program := "ytjpimaiogdckpaa", sum := "7dfe9afb12c89ef3fa0f0440ce8b5343966b12492cbcd41872b472cfc7cc3b9e", func := "underwood/underwoodlaw12.SpDeep", spec := "spDeep", inPlace := ["slices.overlaps[int]"], unfollowed := true, recurses := true, apart := false, narrowed := true }
def SpDeepUptoSaid : Prop := spDeepUptoRow.holds Try.pinned (OpenSpec.upto spDeepSpec)

end Rows
end Go.Proofs.Ytjpimaiogdckpaa
