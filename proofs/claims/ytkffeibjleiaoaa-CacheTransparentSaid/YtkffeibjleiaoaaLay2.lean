/-
  Contracts: Valid, and the document's own Valid.
-/
import Derived.Test.YtkffeibjleiaoaaLay1
namespace Go.Proofs.Ytkffeibjleiaoaa
open Go.RowKit
end Go.Proofs.Ytkffeibjleiaoaa
