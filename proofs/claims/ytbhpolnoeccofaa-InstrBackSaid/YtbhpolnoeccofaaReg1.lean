/-
  Contracts: Valid, regionsOf, pagesOfRegion, Total, Pages and the document's own Valid, Total, Pages.
-/
import Derived.Test.YtbhpolnoeccofaaOpenInts
import Derived.Test.YtbhpolnoeccofaaRegMath
namespace Go.Proofs.Ytbhpolnoeccofaa
open Go.RowKit

theorem IntsAt.some {k : IntKind} {w : World} {a : Option Addr} {xs : List Int} (h : IntsAt k w a xs) {j : Nat} (hj : j < xs.length) :
    ∃ b off, a = some ⟨b, off, none⟩ ∧ ∀ i (h : i < xs.length), w.cell? ⟨b, off + i, none⟩ = some (.int k xs[i]) := by
  rcases h with rfl | h
  · simp at hj
  · exact h

theorem NatsAt.ints {k : IntKind} {w : World} {a : Option Addr} {xs : List Nat} (h : NatsAt k w a xs) : IntsAt k w a (xs.map fun x : Nat => (x : Int)) := by
  rcases h with rfl | ⟨b, off, ha, h⟩
  · exact .inl rfl
  · exact .inr ⟨b, off, ha, fun i hi => by rw [h i (by simpa using hi)]; simp⟩

theorem pg_int (n : Nat) : ((n : Int) + 8 - 1) / 8 = ((pg n : Nat) : Int) := by unfold pg; omega

end Go.Proofs.Ytbhpolnoeccofaa
