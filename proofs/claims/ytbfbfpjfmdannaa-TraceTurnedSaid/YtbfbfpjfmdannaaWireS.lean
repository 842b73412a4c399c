/-
  WIRE: the contracts of the document's GetText.
-/
import Derived.Test.YtbfbfpjfmdannaaWireQ
namespace Go.Proofs.Ytbfbfpjfmdannaa
open Go.ChangeShapes Go.WideShapes Go.ChangeAt Go.RowKit Go.Lib

theorem ex_empty : (⟨#[]⟩ : ByteArray) = ByteArray.empty := rfl

end Go.Proofs.Ytbfbfpjfmdannaa
