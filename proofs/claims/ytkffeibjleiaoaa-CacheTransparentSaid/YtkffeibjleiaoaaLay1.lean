/-
  Contracts: which layouts are valid (apart, Valid), and the document's own Valid.
-/
import Derived.Test.YtkffeibjleiaoaaReg1
import Derived.Test.YtkffeibjleiaoaaReg2
import Derived.Test.YtkffeibjleiaoaaLayMath
namespace Go.Proofs.Ytkffeibjleiaoaa
open Go.RowKit

theorem IntsAt.later {k : IntKind} {w w' : World} {a : Option Addr} {xs : List Int} (h : IntsAt k w a xs) (hb : Below w.heap.size w w') : IntsAt k w' a xs := by
  rcases h with h | ⟨b, off, ha, h⟩
  · exact .inl h
  · exact .inr ⟨b, off, ha, fun i hi => cell_later hb (h i hi)⟩

end Go.Proofs.Ytkffeibjleiaoaa
