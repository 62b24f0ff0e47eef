/-
  Contract: the document's own Valid.
-/
import Derived.Test.YtaigkplalcnelaaLay1
namespace Go.Proofs.Ytaigkplalcnelaa
open Go.RowKit
end Go.Proofs.Ytaigkplalcnelaa
