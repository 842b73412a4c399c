/-
  HIST: what calls come to, by name.
-/
import Derived.Test.YtedgliaablokcaaRows
import Derived.ProofKit
import Derived.Deep.QuietTactic
import Derived.BigQuiet
import Derived.LoopTactic
import Derived.Test.YtedgliaablokcaaHistH
namespace Go.Proofs.Ytedgliaablokcaa
open Go.ChangeShapes Go.WideShapes Go.ChangeAt Go.RowKit

theorem CallsPost.at {w : World} {l l' : List CallV} {m : Nat} {e : Ending} {w' : World} (hp : CallsPost w l e w') (h : l = l') (hm : l'.length = m) : ∃ q cap, e = .returned (.slice q m cap) ∧ Hcs w' q l' ∧ Below w.heap.size w w' := by
  subst h; subst hm; exact hp
theorem filter_comm (F G : CallV → Bool) (l : List CallV) : (l.filter F).filter G = (l.filter G).filter F := by
  rw [List.filter_filter, List.filter_filter]
  congr 1
  funext c
  exact Bool.and_comm _ _
theorem filter_same (F : CallV → Bool) (l : List CallV) : (l.filter F).filter F = l.filter F := by
  rw [List.filter_filter]
  congr 1
  funext c
  exact Bool.and_self _
theorem filter_le (F : CallV → Bool) (l : List CallV) (n : Nat) (h : l.length = n) : (l.filter F).length ≤ n := by
  rw [← h]; exact List.length_filter_le F l
end Go.Proofs.Ytedgliaablokcaa
