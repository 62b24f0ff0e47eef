/-
  Contracts of the document's own memory: Peek; the words that Load has made are valid.
-/
import Derived.Test.YtaigkplalcnelaaRM2
namespace Go.Proofs.Ytaigkplalcnelaa
open Go.RowKit

/-- What Peek finds, and its error. -/
def peekC (cs : List (Nat × Nat)) (a : Int) : Nat × Nat := if 0 ≤ a ∧ a < 512 then cs.getD a.toNat (0, 0) else (0, 0)
def peekE (a : Int) : Int := if 0 ≤ a ∧ a < 512 then 0 else 6

end Go.Proofs.Ytaigkplalcnelaa
