/-
  Arguments that are slices of words, bytes or ints, opened to lists; slices of cells.
-/
import Derived.Test.YtkffeibjleiaoaaOpenInts
import Derived.Test.YtkffeibjleiaoaaLists
import Derived.Test.YtkffeibjleiaoaaCells
import Derived.ProofKit
import Derived.OpenShut
import Derived.Deep.Slices
import Derived.Deep.Fields
import Derived.ChangeSame
namespace Go.Proofs.Ytkffeibjleiaoaa
open Go.RowKit Go.ChangeShapes Go.WideShapes Go.ChangeAt Go.Deep
end Go.Proofs.Ytkffeibjleiaoaa
