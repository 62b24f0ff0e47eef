/-
  Contracts: Resolve and Address.
-/
import Derived.Test.YtkffeibjleiaoaaLay2
import Derived.Test.YtkffeibjleiaoaaLayRes
import Derived.Test.YtkffeibjleiaoaaReg4
namespace Go.Proofs.Ytkffeibjleiaoaa
open Go.RowKit

theorem layB_true {bs : List Int} {s : List Nat} (hs : Sz s) (h : LV bs s) : layB bs (s.map fun x : Nat => (x : Int)) = true := by
  rw [layB_nat bs hs]; exact decide_eq_true h

end Go.Proofs.Ytkffeibjleiaoaa
