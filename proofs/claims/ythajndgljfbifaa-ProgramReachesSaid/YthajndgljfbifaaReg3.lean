/-
  Contracts: At and the document's own At.
-/
import Derived.Test.YthajndgljfbifaaReg2
namespace Go.Proofs.Ythajndgljfbifaa
open Go.RowKit

/-- The place with number i. -/
def atO (s : List Nat) (i : Int) : Option (Nat × Nat) := if 0 ≤ i then atF 0 s i.toNat else none

/-- What At answers: region, offset, error. -/
def atR (s : List Nat) (i : Int) : Int := match atO s i with | some p => (p.1 : Int) | none => 0
def atOf (s : List Nat) (i : Int) : Int := match atO s i with | some p => (p.2 : Int) | none => 0
def atE (s : List Nat) (i : Int) : Int := match atO s i with | some _ => 0 | none => 6

theorem at_some {s : List Nat} {i : Int} {r o : Nat} (h : atO s i = some (r, o)) : atR s i = (r : Int) ∧ atOf s i = (o : Int) ∧ atE s i = 0 := by
  unfold atR atOf atE; rw [h]; exact ⟨rfl, rfl, rfl⟩

theorem at_none {s : List Nat} {i : Int} (h : atO s i = none) : atR s i = 0 ∧ atOf s i = 0 ∧ atE s i = 6 := by
  unfold atR atOf atE; rw [h]; exact ⟨rfl, rfl, rfl⟩

theorem atO_neg {s : List Nat} {i : Int} (h : i < 0) : atO s i = none := by unfold atO; rw [if_neg (by omega)]
theorem atO_nat (s : List Nat) (n : Nat) : atO s (n : Int) = atF 0 s n := by unfold atO; rw [if_pos (by omega), Int.toNat_natCast]

end Go.Proofs.Ythajndgljfbifaa
