/-
  Contracts of the document's own memory: all, Valid.
-/
import Derived.Test.YtaigkplalcnelaaMemS
import Derived.BigQuiet
import Derived.Deep.QuietTactic
import Derived.Deep.DeepCutAuto
namespace Go.Proofs.Ytaigkplalcnelaa
open Go.RowKit
theorem lineOk_none {i : Nat} {x : MLine} (h : x.tag = -1) : lineOk i x = (!x.dirty && decide (x.cells.length = 0)) := by unfold lineOk; rw [if_pos h]

theorem lineOk_some {i : Nat} {x : MLine} (h : x.tag ≠ -1) : lineOk i x = (decide (0 ≤ x.tag ∧ x.tag < 128 ∧ x.tag % 4 = (i : Int) ∧ x.cells.length = 4) && x.cells.all okW) := by unfold lineOk; rw [if_neg h]

end Go.Proofs.Ytaigkplalcnelaa
