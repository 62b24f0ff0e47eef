/-
  Contract: Resolve.
-/
import Derived.Test.YtaigkplalcnelaaLay7
namespace Go.Proofs.Ytaigkplalcnelaa
open Go.RowKit
end Go.Proofs.Ytaigkplalcnelaa
